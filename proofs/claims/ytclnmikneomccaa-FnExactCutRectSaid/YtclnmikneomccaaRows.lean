/-
  No cell of these rows narrows 'for every input' (looked for: loops, veiled, ifaces, maps, wideKeys, modest, calm, conditions, laid).
  DERIVED. THE GIVEN ROWS OF THIS SEAT. 9 by the template 'for every input the law returns true; each argument reads behind the call as it read before'; 0 by the template 'total and deterministic' (their statements: YtclnmikneomccaaTotals.lean).
  GIVEN WITH THE SEED: the statements are not yours to turn. If you find one false, say at which input.
  Laid BY PROGRAM, IN A SANDBOX (cutbox-rows.mjs): the forced cells as the released guide's own fill.sh prints them over the translation be5bc3de30c8afe0… (all of the seat's roots in one cut). By AI agents, Wed Nov 11 2026. No macro, syntax, notation, axiom, sorry.
-/
import Derived.Test.YtclnmikneomccaaChecked
import GoSem.Claim
import GoSem.ClaimJoined
import GoSem.ClaimMapViews
import Derived.JoinedTies
import Derived.KernelRfl
namespace Go.Proofs.Ytclnmikneomccaa
/- THE CELL 'sum', in the pinned program and in every row, IS THE sha256 OF THE DUMP (.gsa) THAT YtclnmikneomccaaProg.lean LOADS. Nothing in Lean hashes anything: it is a label: what it is worth is what the hold of that sum in a sandbox is worth. -/
noncomputable def Try.pinned : Pinned := { name := "ytclnmikneomccaa", sum := "be5bc3de30c8afe0fbd4801a53a82843a470d00cd6d24f568b7e488644841550", checked := Try.checked }
namespace Rows
def none {H : Type} : Left H := { results := [], args := [] }

/-- 'laws.FnExactRectsFault': WHATEVER THE INPUT: true; the input reads as it did. -/
def fnExactRectsFaultSpec : ChangeSpec := { name := "fnExactRectsFault", fn := fun _ => fun
  | [d] => { results := [.lit (.bool true)], args := [d] }
  | _ => none }
def fnExactRectsFaultRow : OpenClaim := { program := "ytclnmikneomccaa", sum := "be5bc3de30c8afe0fbd4801a53a82843a470d00cd6d24f568b7e488644841550", func := "loop.example/g00049/laws.FnExactRectsFault", spec := "fnExactRectsFault", plainKeys := false, apart := false }
def FnExactRectsFaultSaid : Prop := fnExactRectsFaultRow.holds Try.pinned (OpenSpec.ofChange fnExactRectsFaultSpec)

/-- ITS FALSE NEIGHBOUR: 'it returns false'. Refute it at one input. -/
def fnExactRectsFaultWrong : ChangeSpec := { name := "fnExactRectsFault", fn := fun _ => fun
  | [d] => { results := [.lit (.bool false)], args := [d] }
  | _ => none }
def FnExactRectsFaultWrongFalsely : Prop := fnExactRectsFaultRow.holds Try.pinned (OpenSpec.ofChange fnExactRectsFaultWrong)

/-- 'laws.FnExactNetsOf': WHATEVER THE INPUT: true; the input reads as it did. -/
def fnExactNetsOfSpec : ChangeSpec := { name := "fnExactNetsOf", fn := fun _ => fun
  | [d] => { results := [.lit (.bool true)], args := [d] }
  | _ => none }
def fnExactNetsOfRow : OpenClaim := { program := "ytclnmikneomccaa", sum := "be5bc3de30c8afe0fbd4801a53a82843a470d00cd6d24f568b7e488644841550", func := "loop.example/g00049/laws.FnExactNetsOf", spec := "fnExactNetsOf", recurses := true, plainKeys := false, apart := false }
def FnExactNetsOfSaid : Prop := fnExactNetsOfRow.holds Try.pinned (OpenSpec.ofChange fnExactNetsOfSpec)

/-- ITS FALSE NEIGHBOUR: 'it returns false'. Refute it at one input. -/
def fnExactNetsOfWrong : ChangeSpec := { name := "fnExactNetsOf", fn := fun _ => fun
  | [d] => { results := [.lit (.bool false)], args := [d] }
  | _ => none }
def FnExactNetsOfWrongFalsely : Prop := fnExactNetsOfRow.holds Try.pinned (OpenSpec.ofChange fnExactNetsOfWrong)

/-- 'laws.FnExactAreaOf': WHATEVER THE INPUT: true; the input reads as it did. -/
def fnExactAreaOfSpec : ChangeSpec := { name := "fnExactAreaOf", fn := fun _ => fun
  | [d1, d2] => { results := [.lit (.bool true)], args := [d1, d2] }
  | _ => none }
def fnExactAreaOfRow : OpenClaim := { program := "ytclnmikneomccaa", sum := "be5bc3de30c8afe0fbd4801a53a82843a470d00cd6d24f568b7e488644841550", func := "loop.example/g00049/laws.FnExactAreaOf", spec := "fnExactAreaOf", unfollowed := true, recurses := true, plainKeys := false, apart := false }
def FnExactAreaOfSaid : Prop := fnExactAreaOfRow.holds Try.pinned (OpenSpec.ofChange fnExactAreaOfSpec)

/-- ITS FALSE NEIGHBOUR: 'it returns false'. Refute it at one input. -/
def fnExactAreaOfWrong : ChangeSpec := { name := "fnExactAreaOf", fn := fun _ => fun
  | [d1, d2] => { results := [.lit (.bool false)], args := [d1, d2] }
  | _ => none }
def FnExactAreaOfWrongFalsely : Prop := fnExactAreaOfRow.holds Try.pinned (OpenSpec.ofChange fnExactAreaOfWrong)

/-- 'laws.FnExactFlawsOf': WHATEVER THE INPUT: true; the input reads as it did. -/
def fnExactFlawsOfSpec : ChangeSpec := { name := "fnExactFlawsOf", fn := fun _ => fun
  | [d1, d2] => { results := [.lit (.bool true)], args := [d1, d2] }
  | _ => none }
def fnExactFlawsOfRow : OpenClaim := { program := "ytclnmikneomccaa", sum := "be5bc3de30c8afe0fbd4801a53a82843a470d00cd6d24f568b7e488644841550", func := "loop.example/g00049/laws.FnExactFlawsOf", spec := "fnExactFlawsOf", unfollowed := true, recurses := true, plainKeys := false, apart := false }
def FnExactFlawsOfSaid : Prop := fnExactFlawsOfRow.holds Try.pinned (OpenSpec.ofChange fnExactFlawsOfSpec)

/-- ITS FALSE NEIGHBOUR: 'it returns false'. Refute it at one input. -/
def fnExactFlawsOfWrong : ChangeSpec := { name := "fnExactFlawsOf", fn := fun _ => fun
  | [d1, d2] => { results := [.lit (.bool false)], args := [d1, d2] }
  | _ => none }
def FnExactFlawsOfWrongFalsely : Prop := fnExactFlawsOfRow.holds Try.pinned (OpenSpec.ofChange fnExactFlawsOfWrong)

/-- 'laws.FnExactMoveRects': WHATEVER THE INPUT: true; the input reads as it did. -/
def fnExactMoveRectsSpec : ChangeSpec := { name := "fnExactMoveRects", fn := fun _ => fun
  | [d1, d2, d3] => { results := [.lit (.bool true)], args := [d1, d2, d3] }
  | _ => none }
def fnExactMoveRectsRow : OpenClaim := { program := "ytclnmikneomccaa", sum := "be5bc3de30c8afe0fbd4801a53a82843a470d00cd6d24f568b7e488644841550", func := "loop.example/g00049/laws.FnExactMoveRects", spec := "fnExactMoveRects", plainKeys := false, apart := false }
def FnExactMoveRectsSaid : Prop := fnExactMoveRectsRow.holds Try.pinned (OpenSpec.ofChange fnExactMoveRectsSpec)

/-- ITS FALSE NEIGHBOUR: 'it returns false'. Refute it at one input. -/
def fnExactMoveRectsWrong : ChangeSpec := { name := "fnExactMoveRects", fn := fun _ => fun
  | [d1, d2, d3] => { results := [.lit (.bool false)], args := [d1, d2, d3] }
  | _ => none }
def FnExactMoveRectsWrongFalsely : Prop := fnExactMoveRectsRow.holds Try.pinned (OpenSpec.ofChange fnExactMoveRectsWrong)

/-- 'laws.FnExactTransposeRects': WHATEVER THE INPUT: true; the input reads as it did. -/
def fnExactTransposeRectsSpec : ChangeSpec := { name := "fnExactTransposeRects", fn := fun _ => fun
  | [d] => { results := [.lit (.bool true)], args := [d] }
  | _ => none }
def fnExactTransposeRectsRow : OpenClaim := { program := "ytclnmikneomccaa", sum := "be5bc3de30c8afe0fbd4801a53a82843a470d00cd6d24f568b7e488644841550", func := "loop.example/g00049/laws.FnExactTransposeRects", spec := "fnExactTransposeRects", plainKeys := false, apart := false }
def FnExactTransposeRectsSaid : Prop := fnExactTransposeRectsRow.holds Try.pinned (OpenSpec.ofChange fnExactTransposeRectsSpec)

/-- ITS FALSE NEIGHBOUR: 'it returns false'. Refute it at one input. -/
def fnExactTransposeRectsWrong : ChangeSpec := { name := "fnExactTransposeRects", fn := fun _ => fun
  | [d] => { results := [.lit (.bool false)], args := [d] }
  | _ => none }
def FnExactTransposeRectsWrongFalsely : Prop := fnExactTransposeRectsRow.holds Try.pinned (OpenSpec.ofChange fnExactTransposeRectsWrong)

/-- 'laws.FnExactCutRect': WHATEVER THE INPUT: true; the input reads as it did. -/
def fnExactCutRectSpec : ChangeSpec := { name := "fnExactCutRect", fn := fun _ => fun
  | [d1, d2, d3] => { results := [.lit (.bool true)], args := [d1, d2, d3] }
  | _ => none }
def fnExactCutRectRow : OpenClaim := { program := "ytclnmikneomccaa", sum := "be5bc3de30c8afe0fbd4801a53a82843a470d00cd6d24f568b7e488644841550", func := "loop.example/g00049/laws.FnExactCutRect", spec := "fnExactCutRect", inPlace := ["slices.overlaps[loop.example/g00049/impl.Rect]"], plainKeys := false, apart := false }
def FnExactCutRectSaid : Prop := fnExactCutRectRow.holds Try.pinned (OpenSpec.ofChange fnExactCutRectSpec)

/-- ITS FALSE NEIGHBOUR: 'it returns false'. Refute it at one input. -/
def fnExactCutRectWrong : ChangeSpec := { name := "fnExactCutRect", fn := fun _ => fun
  | [d1, d2, d3] => { results := [.lit (.bool false)], args := [d1, d2, d3] }
  | _ => none }
def FnExactCutRectWrongFalsely : Prop := fnExactCutRectRow.holds Try.pinned (OpenSpec.ofChange fnExactCutRectWrong)

/-- 'laws.FnExactPinNets': WHATEVER THE INPUT: true; the input reads as it did. -/
def fnExactPinNetsSpec : ChangeSpec := { name := "fnExactPinNets", fn := fun _ => fun
  | [d1, d2] => { results := [.lit (.bool true)], args := [d1, d2] }
  | _ => none }
def fnExactPinNetsRow : OpenClaim := { program := "ytclnmikneomccaa", sum := "be5bc3de30c8afe0fbd4801a53a82843a470d00cd6d24f568b7e488644841550", func := "loop.example/g00049/laws.FnExactPinNets", spec := "fnExactPinNets", unfollowed := true, recurses := true, plainKeys := false, apart := false }
def FnExactPinNetsSaid : Prop := fnExactPinNetsRow.holds Try.pinned (OpenSpec.ofChange fnExactPinNetsSpec)

/-- ITS FALSE NEIGHBOUR: 'it returns false'. Refute it at one input. -/
def fnExactPinNetsWrong : ChangeSpec := { name := "fnExactPinNets", fn := fun _ => fun
  | [d1, d2] => { results := [.lit (.bool false)], args := [d1, d2] }
  | _ => none }
def FnExactPinNetsWrongFalsely : Prop := fnExactPinNetsRow.holds Try.pinned (OpenSpec.ofChange fnExactPinNetsWrong)

/-- 'laws.FnExactSameJoints': WHATEVER THE INPUT: true; the input reads as it did. -/
def fnExactSameJointsSpec : ChangeSpec := { name := "fnExactSameJoints", fn := fun _ => fun
  | [d1, d2] => { results := [.lit (.bool true)], args := [d1, d2] }
  | _ => none }
def fnExactSameJointsRow : OpenClaim := { program := "ytclnmikneomccaa", sum := "be5bc3de30c8afe0fbd4801a53a82843a470d00cd6d24f568b7e488644841550", func := "loop.example/g00049/laws.FnExactSameJoints", spec := "fnExactSameJoints", plainKeys := false, apart := false }
def FnExactSameJointsSaid : Prop := fnExactSameJointsRow.holds Try.pinned (OpenSpec.ofChange fnExactSameJointsSpec)

/-- ITS FALSE NEIGHBOUR: 'it returns false'. Refute it at one input. -/
def fnExactSameJointsWrong : ChangeSpec := { name := "fnExactSameJoints", fn := fun _ => fun
  | [d1, d2] => { results := [.lit (.bool false)], args := [d1, d2] }
  | _ => none }
def FnExactSameJointsWrongFalsely : Prop := fnExactSameJointsRow.holds Try.pinned (OpenSpec.ofChange fnExactSameJointsWrong)

/- THE SECOND FORM. 'bulk': how many values and letters a reading holds, each counted each time it is reached (what is shared counts as often as it is met; a slice's spare places count too). A statement '..UptoSaid' is the law's where the arguments, and the package variables that the reading takes, are together of bulk at most 1048576: NARROWER than '..Said'. Prove '..Said' where nothing that the law and all that it calls make is longer than what came in: it says more and counts as full. Else prove '..UptoSaid'. A law counts once. -/
mutual
def uptoBulk {H : Type} : DataW H → Nat
  | .lit (.string bytes) => bytes.length + 1
  | .lit _ => 1
  | .nil => 1
  | .ptr d => uptoBulk d + 1
  | .slice elems spare => uptoBulkAll elems + uptoBulkAll spare + 1
  | .agg parts => uptoBulkAll parts + 1
  | .iface _ d => uptoBulk d + 1
  | .map entries => uptoBulkEntries entries + 1
  | .held _ => 1
def uptoBulkAll {H : Type} : List (DataW H) → Nat
  | [] => 0
  | d :: r => uptoBulk d + uptoBulkAll r
def uptoBulkEntries {H : Type} : List (Lit × DataW H) → Nat
  | [] => 0
  | x :: r => uptoBulkEntry x + uptoBulkEntries r
def uptoBulkEntry {H : Type} : Lit × DataW H → Nat
  | (.string bytes, d) => bytes.length + uptoBulk d + 1
  | (_, d) => uptoBulk d + 1
 end
def uptoSmall : (H : Type) → List (DataW H) → Bool := fun _ ds => decide (uptoBulkAll ds ≤ 1048576)
def OpenSpec.upto (s : _root_.Go.ChangeSpec) : _root_.Go.OpenSpec := { _root_.Go.OpenSpec.ofChange s with cond := some uptoSmall }

/-- 'laws.FnExactRectsFault', WHERE WHAT IT READS IS OF BULK AT MOST 1048576: true; the input reads as it did. -/
def fnExactRectsFaultUptoRow : OpenClaim := { program := "ytclnmikneomccaa", sum := "be5bc3de30c8afe0fbd4801a53a82843a470d00cd6d24f568b7e488644841550", func := "loop.example/g00049/laws.FnExactRectsFault", spec := "fnExactRectsFault", plainKeys := false, apart := false, narrowed := true }
def FnExactRectsFaultUptoSaid : Prop := fnExactRectsFaultUptoRow.holds Try.pinned (OpenSpec.upto fnExactRectsFaultSpec)

/-- 'laws.FnExactNetsOf', WHERE WHAT IT READS IS OF BULK AT MOST 1048576: true; the input reads as it did. -/
def fnExactNetsOfUptoRow : OpenClaim := { program := "ytclnmikneomccaa", sum := "be5bc3de30c8afe0fbd4801a53a82843a470d00cd6d24f568b7e488644841550", func := "loop.example/g00049/laws.FnExactNetsOf", spec := "fnExactNetsOf", recurses := true, plainKeys := false, apart := false, narrowed := true }
def FnExactNetsOfUptoSaid : Prop := fnExactNetsOfUptoRow.holds Try.pinned (OpenSpec.upto fnExactNetsOfSpec)

/-- 'laws.FnExactAreaOf', WHERE WHAT IT READS IS OF BULK AT MOST 1048576: true; the input reads as it did. -/
def fnExactAreaOfUptoRow : OpenClaim := { program := "ytclnmikneomccaa", sum := "be5bc3de30c8afe0fbd4801a53a82843a470d00cd6d24f568b7e488644841550", func := "loop.example/g00049/laws.FnExactAreaOf", spec := "fnExactAreaOf", unfollowed := true, recurses := true, plainKeys := false, apart := false, narrowed := true }
def FnExactAreaOfUptoSaid : Prop := fnExactAreaOfUptoRow.holds Try.pinned (OpenSpec.upto fnExactAreaOfSpec)

/-- 'laws.FnExactFlawsOf', WHERE WHAT IT READS IS OF BULK AT MOST 1048576: true; the input reads as it did. -/
def fnExactFlawsOfUptoRow : OpenClaim := { program := "ytclnmikneomccaa", sum := "be5bc3de30c8afe0fbd4801a53a82843a470d00cd6d24f568b7e488644841550", func := "loop.example/g00049/laws.FnExactFlawsOf", spec := "fnExactFlawsOf", unfollowed := true, recurses := true, plainKeys := false, apart := false, narrowed := true }
def FnExactFlawsOfUptoSaid : Prop := fnExactFlawsOfUptoRow.holds Try.pinned (OpenSpec.upto fnExactFlawsOfSpec)

/-- 'laws.FnExactMoveRects', WHERE WHAT IT READS IS OF BULK AT MOST 1048576: true; the input reads as it did. -/
def fnExactMoveRectsUptoRow : OpenClaim := { program := "ytclnmikneomccaa", sum := "be5bc3de30c8afe0fbd4801a53a82843a470d00cd6d24f568b7e488644841550", func := "loop.example/g00049/laws.FnExactMoveRects", spec := "fnExactMoveRects", plainKeys := false, apart := false, narrowed := true }
def FnExactMoveRectsUptoSaid : Prop := fnExactMoveRectsUptoRow.holds Try.pinned (OpenSpec.upto fnExactMoveRectsSpec)

/-- 'laws.FnExactTransposeRects', WHERE WHAT IT READS IS OF BULK AT MOST 1048576: true; the input reads as it did. -/
def fnExactTransposeRectsUptoRow : OpenClaim := { program := "ytclnmikneomccaa", sum := "be5bc3de30c8afe0fbd4801a53a82843a470d00cd6d24f568b7e488644841550", func := "loop.example/g00049/laws.FnExactTransposeRects", spec := "fnExactTransposeRects", plainKeys := false, apart := false, narrowed := true }
def FnExactTransposeRectsUptoSaid : Prop := fnExactTransposeRectsUptoRow.holds Try.pinned (OpenSpec.upto fnExactTransposeRectsSpec)

/-- 'laws.FnExactCutRect', WHERE WHAT IT READS IS OF BULK AT MOST 1048576: true; the input reads as it did. -/
def fnExactCutRectUptoRow : OpenClaim := { program := "ytclnmikneomccaa", sum := "be5bc3de30c8afe0fbd4801a53a82843a470d00cd6d24f568b7e488644841550", func := "loop.example/g00049/laws.FnExactCutRect", spec := "fnExactCutRect", inPlace := ["slices.overlaps[loop.example/g00049/impl.Rect]"], plainKeys := false, apart := false, narrowed := true }
def FnExactCutRectUptoSaid : Prop := fnExactCutRectUptoRow.holds Try.pinned (OpenSpec.upto fnExactCutRectSpec)

/-- 'laws.FnExactPinNets', WHERE WHAT IT READS IS OF BULK AT MOST 1048576: true; the input reads as it did. -/
def fnExactPinNetsUptoRow : OpenClaim := { program := "ytclnmikneomccaa", sum := "be5bc3de30c8afe0fbd4801a53a82843a470d00cd6d24f568b7e488644841550", func := "loop.example/g00049/laws.FnExactPinNets", spec := "fnExactPinNets", unfollowed := true, recurses := true, plainKeys := false, apart := false, narrowed := true }
def FnExactPinNetsUptoSaid : Prop := fnExactPinNetsUptoRow.holds Try.pinned (OpenSpec.upto fnExactPinNetsSpec)

/-- 'laws.FnExactSameJoints', WHERE WHAT IT READS IS OF BULK AT MOST 1048576: true; the input reads as it did. -/
def fnExactSameJointsUptoRow : OpenClaim := { program := "ytclnmikneomccaa", sum := "be5bc3de30c8afe0fbd4801a53a82843a470d00cd6d24f568b7e488644841550", func := "loop.example/g00049/laws.FnExactSameJoints", spec := "fnExactSameJoints", plainKeys := false, apart := false, narrowed := true }
def FnExactSameJointsUptoSaid : Prop := fnExactSameJointsUptoRow.holds Try.pinned (OpenSpec.upto fnExactSameJointsSpec)

end Rows
end Go.Proofs.Ytclnmikneomccaa
