/-
  No cell of these rows narrows 'for every input' (looked for: loops, veiled, ifaces, maps, wideKeys, modest, calm, conditions, laid).
  DERIVED. THE GIVEN ROWS OF THIS SEAT. 10 by the template 'for every input the law returns true; each argument reads behind the call as it read before'; 0 by the template 'total and deterministic' (their statements: YtboppklcmdfphaaTotals.lean).
  GIVEN WITH THE SEED: the statements are not yours to turn. If you find one false, say at which input.
  Laid BY PROGRAM, IN A SANDBOX (cutbox-rows.mjs): the forced cells as the released guide's own fill.sh prints them over the translation 36ff2a774a8a5d2e… (all of the seat's roots in one cut). By AI agents, Wed Nov 11 2026. No macro, syntax, notation, axiom, sorry.
-/
import Derived.Test.YtboppklcmdfphaaChecked
import GoSem.Claim
import GoSem.ClaimJoined
import GoSem.ClaimMapViews
import Derived.JoinedTies
import Derived.KernelRfl
namespace Go.Proofs.Ytboppklcmdfphaa
/- THE CELL 'sum', in the pinned program and in every row, IS THE sha256 OF THE DUMP (.gsa) THAT YtboppklcmdfphaaProg.lean LOADS. Nothing in Lean hashes anything: it is a label: what it is worth is what the hold of that sum in a sandbox is worth. -/
noncomputable def Try.pinned : Pinned := { name := "ytboppklcmdfphaa", sum := "36ff2a774a8a5d2ee17b45892a006e41747be4470bb8d45ba936505496e9af6a", checked := Try.checked }
namespace Rows
def none {H : Type} : Left H := { results := [], args := [] }

/-- 'laws.FnExactInvRows': WHATEVER THE INPUT: true; the input reads as it did. -/
def fnExactInvRowsSpec : ChangeSpec := { name := "fnExactInvRows", fn := fun _ => fun
  | [d] => { results := [.lit (.bool true)], args := [d] }
  | _ => none }
def fnExactInvRowsRow : OpenClaim := { program := "ytboppklcmdfphaa", sum := "36ff2a774a8a5d2ee17b45892a006e41747be4470bb8d45ba936505496e9af6a", func := "loop.example/g00049/laws.FnExactInvRows", spec := "fnExactInvRows", apart := false }
def FnExactInvRowsSaid : Prop := fnExactInvRowsRow.holds Try.pinned (OpenSpec.ofChange fnExactInvRowsSpec)

/-- ITS FALSE NEIGHBOUR: 'it returns false'. Refute it at one input. -/
def fnExactInvRowsWrong : ChangeSpec := { name := "fnExactInvRows", fn := fun _ => fun
  | [d] => { results := [.lit (.bool false)], args := [d] }
  | _ => none }
def FnExactInvRowsWrongFalsely : Prop := fnExactInvRowsRow.holds Try.pinned (OpenSpec.ofChange fnExactInvRowsWrong)

/-- 'laws.FnExactSolveRows': WHATEVER THE INPUT: true; the input reads as it did. -/
def fnExactSolveRowsSpec : ChangeSpec := { name := "fnExactSolveRows", fn := fun _ => fun
  | [d1, d2] => { results := [.lit (.bool true)], args := [d1, d2] }
  | _ => none }
def fnExactSolveRowsRow : OpenClaim := { program := "ytboppklcmdfphaa", sum := "36ff2a774a8a5d2ee17b45892a006e41747be4470bb8d45ba936505496e9af6a", func := "loop.example/g00049/laws.FnExactSolveRows", spec := "fnExactSolveRows", apart := false }
def FnExactSolveRowsSaid : Prop := fnExactSolveRowsRow.holds Try.pinned (OpenSpec.ofChange fnExactSolveRowsSpec)

/-- ITS FALSE NEIGHBOUR: 'it returns false'. Refute it at one input. -/
def fnExactSolveRowsWrong : ChangeSpec := { name := "fnExactSolveRows", fn := fun _ => fun
  | [d1, d2] => { results := [.lit (.bool false)], args := [d1, d2] }
  | _ => none }
def FnExactSolveRowsWrongFalsely : Prop := fnExactSolveRowsRow.holds Try.pinned (OpenSpec.ofChange fnExactSolveRowsWrong)

/-- 'laws.FnExactMeshFault': WHATEVER THE INPUT: true; the input reads as it did. -/
def fnExactMeshFaultSpec : ChangeSpec := { name := "fnExactMeshFault", fn := fun _ => fun
  | [d] => { results := [.lit (.bool true)], args := [d] }
  | _ => none }
def fnExactMeshFaultRow : OpenClaim := { program := "ytboppklcmdfphaa", sum := "36ff2a774a8a5d2ee17b45892a006e41747be4470bb8d45ba936505496e9af6a", func := "loop.example/g00049/laws.FnExactMeshFault", spec := "fnExactMeshFault", apart := false }
def FnExactMeshFaultSaid : Prop := fnExactMeshFaultRow.holds Try.pinned (OpenSpec.ofChange fnExactMeshFaultSpec)

/-- ITS FALSE NEIGHBOUR: 'it returns false'. Refute it at one input. -/
def fnExactMeshFaultWrong : ChangeSpec := { name := "fnExactMeshFault", fn := fun _ => fun
  | [d] => { results := [.lit (.bool false)], args := [d] }
  | _ => none }
def FnExactMeshFaultWrongFalsely : Prop := fnExactMeshFaultRow.holds Try.pinned (OpenSpec.ofChange fnExactMeshFaultWrong)

/-- 'laws.FnExactFireMesh': WHATEVER THE INPUT: true; the input reads as it did. -/
def fnExactFireMeshSpec : ChangeSpec := { name := "fnExactFireMesh", fn := fun _ => fun
  | [d1, d2] => { results := [.lit (.bool true)], args := [d1, d2] }
  | _ => none }
def fnExactFireMeshRow : OpenClaim := { program := "ytboppklcmdfphaa", sum := "36ff2a774a8a5d2ee17b45892a006e41747be4470bb8d45ba936505496e9af6a", func := "loop.example/g00049/laws.FnExactFireMesh", spec := "fnExactFireMesh", unfollowed := true, recurses := true, apart := false }
def FnExactFireMeshSaid : Prop := fnExactFireMeshRow.holds Try.pinned (OpenSpec.ofChange fnExactFireMeshSpec)

/-- ITS FALSE NEIGHBOUR: 'it returns false'. Refute it at one input. -/
def fnExactFireMeshWrong : ChangeSpec := { name := "fnExactFireMesh", fn := fun _ => fun
  | [d1, d2] => { results := [.lit (.bool false)], args := [d1, d2] }
  | _ => none }
def FnExactFireMeshWrongFalsely : Prop := fnExactFireMeshRow.holds Try.pinned (OpenSpec.ofChange fnExactFireMeshWrong)

/-- 'laws.FnExactReadMesh': WHATEVER THE INPUT: true; the input reads as it did. -/
def fnExactReadMeshSpec : ChangeSpec := { name := "fnExactReadMesh", fn := fun _ => fun
  | [d] => { results := [.lit (.bool true)], args := [d] }
  | _ => none }
def fnExactReadMeshRow : OpenClaim := { program := "ytboppklcmdfphaa", sum := "36ff2a774a8a5d2ee17b45892a006e41747be4470bb8d45ba936505496e9af6a", func := "loop.example/g00049/laws.FnExactReadMesh", spec := "fnExactReadMesh", unfollowed := true, recurses := true, apart := false }
def FnExactReadMeshSaid : Prop := fnExactReadMeshRow.holds Try.pinned (OpenSpec.ofChange fnExactReadMeshSpec)

/-- ITS FALSE NEIGHBOUR: 'it returns false'. Refute it at one input. -/
def fnExactReadMeshWrong : ChangeSpec := { name := "fnExactReadMesh", fn := fun _ => fun
  | [d] => { results := [.lit (.bool false)], args := [d] }
  | _ => none }
def FnExactReadMeshWrongFalsely : Prop := fnExactReadMeshRow.holds Try.pinned (OpenSpec.ofChange fnExactReadMeshWrong)

/-- 'laws.FnExactProgramMesh': WHATEVER THE INPUT: true; the input reads as it did. -/
def fnExactProgramMeshSpec : ChangeSpec := { name := "fnExactProgramMesh", fn := fun _ => fun
  | [d] => { results := [.lit (.bool true)], args := [d] }
  | _ => none }
def fnExactProgramMeshRow : OpenClaim := { program := "ytboppklcmdfphaa", sum := "36ff2a774a8a5d2ee17b45892a006e41747be4470bb8d45ba936505496e9af6a", func := "loop.example/g00049/laws.FnExactProgramMesh", spec := "fnExactProgramMesh", unfollowed := true, recurses := true, apart := false }
def FnExactProgramMeshSaid : Prop := fnExactProgramMeshRow.holds Try.pinned (OpenSpec.ofChange fnExactProgramMeshSpec)

/-- ITS FALSE NEIGHBOUR: 'it returns false'. Refute it at one input. -/
def fnExactProgramMeshWrong : ChangeSpec := { name := "fnExactProgramMesh", fn := fun _ => fun
  | [d] => { results := [.lit (.bool false)], args := [d] }
  | _ => none }
def FnExactProgramMeshWrongFalsely : Prop := fnExactProgramMeshRow.holds Try.pinned (OpenSpec.ofChange fnExactProgramMeshWrong)

/-- 'laws.FnExactUndoMesh': WHATEVER THE INPUT: true; the input reads as it did. -/
def fnExactUndoMeshSpec : ChangeSpec := { name := "fnExactUndoMesh", fn := fun _ => fun
  | [d] => { results := [.lit (.bool true)], args := [d] }
  | _ => none }
def fnExactUndoMeshRow : OpenClaim := { program := "ytboppklcmdfphaa", sum := "36ff2a774a8a5d2ee17b45892a006e41747be4470bb8d45ba936505496e9af6a", func := "loop.example/g00049/laws.FnExactUndoMesh", spec := "fnExactUndoMesh", unfollowed := true, recurses := true, apart := false }
def FnExactUndoMeshSaid : Prop := fnExactUndoMeshRow.holds Try.pinned (OpenSpec.ofChange fnExactUndoMeshSpec)

/-- ITS FALSE NEIGHBOUR: 'it returns false'. Refute it at one input. -/
def fnExactUndoMeshWrong : ChangeSpec := { name := "fnExactUndoMesh", fn := fun _ => fun
  | [d] => { results := [.lit (.bool false)], args := [d] }
  | _ => none }
def FnExactUndoMeshWrongFalsely : Prop := fnExactUndoMeshRow.holds Try.pinned (OpenSpec.ofChange fnExactUndoMeshWrong)

/-- 'laws.FnExactSwapGuides': WHATEVER THE INPUT: true; the input reads as it did. -/
def fnExactSwapGuidesSpec : ChangeSpec := { name := "fnExactSwapGuides", fn := fun _ => fun
  | [d1, d2, d3] => { results := [.lit (.bool true)], args := [d1, d2, d3] }
  | _ => none }
def fnExactSwapGuidesRow : OpenClaim := { program := "ytboppklcmdfphaa", sum := "36ff2a774a8a5d2ee17b45892a006e41747be4470bb8d45ba936505496e9af6a", func := "loop.example/g00049/laws.FnExactSwapGuides", spec := "fnExactSwapGuides", apart := false }
def FnExactSwapGuidesSaid : Prop := fnExactSwapGuidesRow.holds Try.pinned (OpenSpec.ofChange fnExactSwapGuidesSpec)

/-- ITS FALSE NEIGHBOUR: 'it returns false'. Refute it at one input. -/
def fnExactSwapGuidesWrong : ChangeSpec := { name := "fnExactSwapGuides", fn := fun _ => fun
  | [d1, d2, d3] => { results := [.lit (.bool false)], args := [d1, d2, d3] }
  | _ => none }
def FnExactSwapGuidesWrongFalsely : Prop := fnExactSwapGuidesRow.holds Try.pinned (OpenSpec.ofChange fnExactSwapGuidesWrong)

/-- 'laws.FnExactCascadeMeshes': WHATEVER THE INPUT: true; the input reads as it did. -/
def fnExactCascadeMeshesSpec : ChangeSpec := { name := "fnExactCascadeMeshes", fn := fun _ => fun
  | [d1, d2] => { results := [.lit (.bool true)], args := [d1, d2] }
  | _ => none }
def fnExactCascadeMeshesRow : OpenClaim := { program := "ytboppklcmdfphaa", sum := "36ff2a774a8a5d2ee17b45892a006e41747be4470bb8d45ba936505496e9af6a", func := "loop.example/g00049/laws.FnExactCascadeMeshes", spec := "fnExactCascadeMeshes", unfollowed := true, recurses := true, apart := false }
def FnExactCascadeMeshesSaid : Prop := fnExactCascadeMeshesRow.holds Try.pinned (OpenSpec.ofChange fnExactCascadeMeshesSpec)

/-- ITS FALSE NEIGHBOUR: 'it returns false'. Refute it at one input. -/
def fnExactCascadeMeshesWrong : ChangeSpec := { name := "fnExactCascadeMeshes", fn := fun _ => fun
  | [d1, d2] => { results := [.lit (.bool false)], args := [d1, d2] }
  | _ => none }
def FnExactCascadeMeshesWrongFalsely : Prop := fnExactCascadeMeshesRow.holds Try.pinned (OpenSpec.ofChange fnExactCascadeMeshesWrong)

/-- 'laws.FnExactMeshDet': WHATEVER THE INPUT: true; the input reads as it did. -/
def fnExactMeshDetSpec : ChangeSpec := { name := "fnExactMeshDet", fn := fun _ => fun
  | [d] => { results := [.lit (.bool true)], args := [d] }
  | _ => none }
def fnExactMeshDetRow : OpenClaim := { program := "ytboppklcmdfphaa", sum := "36ff2a774a8a5d2ee17b45892a006e41747be4470bb8d45ba936505496e9af6a", func := "loop.example/g00049/laws.FnExactMeshDet", spec := "fnExactMeshDet", apart := false }
def FnExactMeshDetSaid : Prop := fnExactMeshDetRow.holds Try.pinned (OpenSpec.ofChange fnExactMeshDetSpec)

/-- ITS FALSE NEIGHBOUR: 'it returns false'. Refute it at one input. -/
def fnExactMeshDetWrong : ChangeSpec := { name := "fnExactMeshDet", fn := fun _ => fun
  | [d] => { results := [.lit (.bool false)], args := [d] }
  | _ => none }
def FnExactMeshDetWrongFalsely : Prop := fnExactMeshDetRow.holds Try.pinned (OpenSpec.ofChange fnExactMeshDetWrong)

/- THE SECOND FORM. 'bulk': how many values and letters a reading holds, each counted each time it is reached (what is shared counts as often as it is met; a slice's spare places count too). A statement '..UptoSaid' is the law's where the arguments, and the package variables that the reading takes, are together of bulk at most 1048576: NARROWER than '..Said'. Prove '..Said' where nothing that the law and all that it calls make is longer than what came in: it says more and counts as full. Else prove '..UptoSaid'. A law counts once. -/
mutual
def uptoBulk {H : Type} : DataW H → Nat
  | .lit (.string bytes) => bytes.length + 1
  | .lit _ => 1
  | .nil => 1
  | .ptr d => uptoBulk d + 1
  | .slice elems spare => uptoBulkAll elems + uptoBulkAll spare + 1
  | .agg parts => uptoBulkAll parts + 1
  | .iface _ d => uptoBulk d + 1
  | .map entries => uptoBulkEntries entries + 1
  | .held _ => 1
def uptoBulkAll {H : Type} : List (DataW H) → Nat
  | [] => 0
  | d :: r => uptoBulk d + uptoBulkAll r
def uptoBulkEntries {H : Type} : List (Lit × DataW H) → Nat
  | [] => 0
  | x :: r => uptoBulkEntry x + uptoBulkEntries r
def uptoBulkEntry {H : Type} : Lit × DataW H → Nat
  | (.string bytes, d) => bytes.length + uptoBulk d + 1
  | (_, d) => uptoBulk d + 1
 end
def uptoSmall : (H : Type) → List (DataW H) → Bool := fun _ ds => decide (uptoBulkAll ds ≤ 1048576)
def OpenSpec.upto (s : _root_.Go.ChangeSpec) : _root_.Go.OpenSpec := { _root_.Go.OpenSpec.ofChange s with cond := some uptoSmall }

/-- 'laws.FnExactInvRows', WHERE WHAT IT READS IS OF BULK AT MOST 1048576: true; the input reads as it did. -/
def fnExactInvRowsUptoRow : OpenClaim := { program := "ytboppklcmdfphaa", sum := "36ff2a774a8a5d2ee17b45892a006e41747be4470bb8d45ba936505496e9af6a", func := "loop.example/g00049/laws.FnExactInvRows", spec := "fnExactInvRows", apart := false, narrowed := true }
def FnExactInvRowsUptoSaid : Prop := fnExactInvRowsUptoRow.holds Try.pinned (OpenSpec.upto fnExactInvRowsSpec)

/-- 'laws.FnExactSolveRows', WHERE WHAT IT READS IS OF BULK AT MOST 1048576: true; the input reads as it did. -/
def fnExactSolveRowsUptoRow : OpenClaim := { program := "ytboppklcmdfphaa", sum := "36ff2a774a8a5d2ee17b45892a006e41747be4470bb8d45ba936505496e9af6a", func := "loop.example/g00049/laws.FnExactSolveRows", spec := "fnExactSolveRows", apart := false, narrowed := true }
def FnExactSolveRowsUptoSaid : Prop := fnExactSolveRowsUptoRow.holds Try.pinned (OpenSpec.upto fnExactSolveRowsSpec)

/-- 'laws.FnExactMeshFault', WHERE WHAT IT READS IS OF BULK AT MOST 1048576: true; the input reads as it did. -/
def fnExactMeshFaultUptoRow : OpenClaim := { program := "ytboppklcmdfphaa", sum := "36ff2a774a8a5d2ee17b45892a006e41747be4470bb8d45ba936505496e9af6a", func := "loop.example/g00049/laws.FnExactMeshFault", spec := "fnExactMeshFault", apart := false, narrowed := true }
def FnExactMeshFaultUptoSaid : Prop := fnExactMeshFaultUptoRow.holds Try.pinned (OpenSpec.upto fnExactMeshFaultSpec)

/-- 'laws.FnExactFireMesh', WHERE WHAT IT READS IS OF BULK AT MOST 1048576: true; the input reads as it did. -/
def fnExactFireMeshUptoRow : OpenClaim := { program := "ytboppklcmdfphaa", sum := "36ff2a774a8a5d2ee17b45892a006e41747be4470bb8d45ba936505496e9af6a", func := "loop.example/g00049/laws.FnExactFireMesh", spec := "fnExactFireMesh", unfollowed := true, recurses := true, apart := false, narrowed := true }
def FnExactFireMeshUptoSaid : Prop := fnExactFireMeshUptoRow.holds Try.pinned (OpenSpec.upto fnExactFireMeshSpec)

/-- 'laws.FnExactReadMesh', WHERE WHAT IT READS IS OF BULK AT MOST 1048576: true; the input reads as it did. -/
def fnExactReadMeshUptoRow : OpenClaim := { program := "ytboppklcmdfphaa", sum := "36ff2a774a8a5d2ee17b45892a006e41747be4470bb8d45ba936505496e9af6a", func := "loop.example/g00049/laws.FnExactReadMesh", spec := "fnExactReadMesh", unfollowed := true, recurses := true, apart := false, narrowed := true }
def FnExactReadMeshUptoSaid : Prop := fnExactReadMeshUptoRow.holds Try.pinned (OpenSpec.upto fnExactReadMeshSpec)

/-- 'laws.FnExactProgramMesh', WHERE WHAT IT READS IS OF BULK AT MOST 1048576: true; the input reads as it did. -/
def fnExactProgramMeshUptoRow : OpenClaim := { program := "ytboppklcmdfphaa", sum := "36ff2a774a8a5d2ee17b45892a006e41747be4470bb8d45ba936505496e9af6a", func := "loop.example/g00049/laws.FnExactProgramMesh", spec := "fnExactProgramMesh", unfollowed := true, recurses := true, apart := false, narrowed := true }
def FnExactProgramMeshUptoSaid : Prop := fnExactProgramMeshUptoRow.holds Try.pinned (OpenSpec.upto fnExactProgramMeshSpec)

/-- 'laws.FnExactUndoMesh', WHERE WHAT IT READS IS OF BULK AT MOST 1048576: true; the input reads as it did. -/
def fnExactUndoMeshUptoRow : OpenClaim := { program := "ytboppklcmdfphaa", sum := "36ff2a774a8a5d2ee17b45892a006e41747be4470bb8d45ba936505496e9af6a", func := "loop.example/g00049/laws.FnExactUndoMesh", spec := "fnExactUndoMesh", unfollowed := true, recurses := true, apart := false, narrowed := true }
def FnExactUndoMeshUptoSaid : Prop := fnExactUndoMeshUptoRow.holds Try.pinned (OpenSpec.upto fnExactUndoMeshSpec)

/-- 'laws.FnExactSwapGuides', WHERE WHAT IT READS IS OF BULK AT MOST 1048576: true; the input reads as it did. -/
def fnExactSwapGuidesUptoRow : OpenClaim := { program := "ytboppklcmdfphaa", sum := "36ff2a774a8a5d2ee17b45892a006e41747be4470bb8d45ba936505496e9af6a", func := "loop.example/g00049/laws.FnExactSwapGuides", spec := "fnExactSwapGuides", apart := false, narrowed := true }
def FnExactSwapGuidesUptoSaid : Prop := fnExactSwapGuidesUptoRow.holds Try.pinned (OpenSpec.upto fnExactSwapGuidesSpec)

/-- 'laws.FnExactCascadeMeshes', WHERE WHAT IT READS IS OF BULK AT MOST 1048576: true; the input reads as it did. -/
def fnExactCascadeMeshesUptoRow : OpenClaim := { program := "ytboppklcmdfphaa", sum := "36ff2a774a8a5d2ee17b45892a006e41747be4470bb8d45ba936505496e9af6a", func := "loop.example/g00049/laws.FnExactCascadeMeshes", spec := "fnExactCascadeMeshes", unfollowed := true, recurses := true, apart := false, narrowed := true }
def FnExactCascadeMeshesUptoSaid : Prop := fnExactCascadeMeshesUptoRow.holds Try.pinned (OpenSpec.upto fnExactCascadeMeshesSpec)

/-- 'laws.FnExactMeshDet', WHERE WHAT IT READS IS OF BULK AT MOST 1048576: true; the input reads as it did. -/
def fnExactMeshDetUptoRow : OpenClaim := { program := "ytboppklcmdfphaa", sum := "36ff2a774a8a5d2ee17b45892a006e41747be4470bb8d45ba936505496e9af6a", func := "loop.example/g00049/laws.FnExactMeshDet", spec := "fnExactMeshDet", apart := false, narrowed := true }
def FnExactMeshDetUptoSaid : Prop := fnExactMeshDetUptoRow.holds Try.pinned (OpenSpec.upto fnExactMeshDetSpec)

end Rows
end Go.Proofs.Ytboppklcmdfphaa
