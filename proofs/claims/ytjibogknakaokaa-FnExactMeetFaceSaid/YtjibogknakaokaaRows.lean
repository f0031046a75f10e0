/-
  No cell of these rows narrows 'for every input' (looked for: loops, veiled, ifaces, maps, wideKeys, modest, calm, conditions, laid).
  DERIVED. THE GIVEN ROWS OF THIS SEAT. 9 by the template 'for every input the law returns true; each argument reads behind the call as it read before'; 0 by the template 'total and deterministic' (their statements: YtjibogknakaokaaTotals.lean).
  GIVEN WITH THE SEED: the statements are not yours to turn. If you find one false, say at which input.
  Laid BY PROGRAM, IN A SANDBOX (cutbox-rows.mjs): the forced cells as the released guide's own fill.sh prints them over the translation 5b4565906794c869… (all of the seat's roots in one cut). By AI agents, Wed Nov 11 2026. No macro, syntax, notation, axiom, sorry.
-/
import Derived.Test.YtjibogknakaokaaChecked
import GoSem.Claim
import GoSem.ClaimJoined
import GoSem.ClaimMapViews
import Derived.JoinedTies
import Derived.KernelRfl
namespace Go.Proofs.Ytjibogknakaokaa
/- THE CELL 'sum', in the pinned program and in every row, IS THE sha256 OF THE DUMP (.gsa) THAT YtjibogknakaokaaProg.lean LOADS. Nothing in Lean hashes anything: it is a label: what it is worth is what the hold of that sum in a sandbox is worth. -/
noncomputable def Try.pinned : Pinned := { name := "ytjibogknakaokaa", sum := "5b4565906794c869c74272553c9a1a46d1666d9bbae1ebdf03b5e04524999bab", checked := Try.checked }
namespace Rows
def none {H : Type} : Left H := { results := [], args := [] }

/-- 'laws.FnRays': WHATEVER THE INPUT: true; the input reads as it did. -/
def fnRaysSpec : ChangeSpec := { name := "fnRays", fn := fun _ => fun
  | [d] => { results := [.lit (.bool true)], args := [d] }
  | _ => none }
def fnRaysRow : OpenClaim := { program := "ytjibogknakaokaa", sum := "5b4565906794c869c74272553c9a1a46d1666d9bbae1ebdf03b5e04524999bab", func := "loop.example/g00049/laws.FnRays", spec := "fnRays", inPlace := ["math.Float64bits", "math.Float64frombits", "math.sqrt"], unfollowed := true, recurses := true, apart := false }
def FnRaysSaid : Prop := fnRaysRow.holds Try.pinned (OpenSpec.ofChange fnRaysSpec)

/-- ITS FALSE NEIGHBOUR: 'it returns false'. Refute it at one input. -/
def fnRaysWrong : ChangeSpec := { name := "fnRays", fn := fun _ => fun
  | [d] => { results := [.lit (.bool false)], args := [d] }
  | _ => none }
def FnRaysWrongFalsely : Prop := fnRaysRow.holds Try.pinned (OpenSpec.ofChange fnRaysWrong)

/-- 'laws.FnGhosts': WHATEVER THE INPUT: true; the input reads as it did. -/
def fnGhostsSpec : ChangeSpec := { name := "fnGhosts", fn := fun _ => fun
  | [d] => { results := [.lit (.bool true)], args := [d] }
  | _ => none }
def fnGhostsRow : OpenClaim := { program := "ytjibogknakaokaa", sum := "5b4565906794c869c74272553c9a1a46d1666d9bbae1ebdf03b5e04524999bab", func := "loop.example/g00049/laws.FnGhosts", spec := "fnGhosts", recurses := true, apart := false }
def FnGhostsSaid : Prop := fnGhostsRow.holds Try.pinned (OpenSpec.ofChange fnGhostsSpec)

/-- ITS FALSE NEIGHBOUR: 'it returns false'. Refute it at one input. -/
def fnGhostsWrong : ChangeSpec := { name := "fnGhosts", fn := fun _ => fun
  | [d] => { results := [.lit (.bool false)], args := [d] }
  | _ => none }
def FnGhostsWrongFalsely : Prop := fnGhostsRow.holds Try.pinned (OpenSpec.ofChange fnGhostsWrong)

/-- 'laws.FnExactFacesOf': WHATEVER THE INPUT: true; the input reads as it did. -/
def fnExactFacesOfSpec : ChangeSpec := { name := "fnExactFacesOf", fn := fun _ => fun
  | [d] => { results := [.lit (.bool true)], args := [d] }
  | _ => none }
def fnExactFacesOfRow : OpenClaim := { program := "ytjibogknakaokaa", sum := "5b4565906794c869c74272553c9a1a46d1666d9bbae1ebdf03b5e04524999bab", func := "loop.example/g00049/laws.FnExactFacesOf", spec := "fnExactFacesOf", apart := false }
def FnExactFacesOfSaid : Prop := fnExactFacesOfRow.holds Try.pinned (OpenSpec.ofChange fnExactFacesOfSpec)

/-- ITS FALSE NEIGHBOUR: 'it returns false'. Refute it at one input. -/
def fnExactFacesOfWrong : ChangeSpec := { name := "fnExactFacesOf", fn := fun _ => fun
  | [d] => { results := [.lit (.bool false)], args := [d] }
  | _ => none }
def FnExactFacesOfWrongFalsely : Prop := fnExactFacesOfRow.holds Try.pinned (OpenSpec.ofChange fnExactFacesOfWrong)

/-- 'laws.FnExactSagOf': WHATEVER THE INPUT: true; the input reads as it did. -/
def fnExactSagOfSpec : ChangeSpec := { name := "fnExactSagOf", fn := fun _ => fun
  | [d1, d2, d3] => { results := [.lit (.bool true)], args := [d1, d2, d3] }
  | _ => none }
def fnExactSagOfRow : OpenClaim := { program := "ytjibogknakaokaa", sum := "5b4565906794c869c74272553c9a1a46d1666d9bbae1ebdf03b5e04524999bab", func := "loop.example/g00049/laws.FnExactSagOf", spec := "fnExactSagOf", inPlace := ["math.Float64bits", "math.Float64frombits"], unfollowed := true, recurses := true, apart := false }
def FnExactSagOfSaid : Prop := fnExactSagOfRow.holds Try.pinned (OpenSpec.ofChange fnExactSagOfSpec)

/-- ITS FALSE NEIGHBOUR: 'it returns false'. Refute it at one input. -/
def fnExactSagOfWrong : ChangeSpec := { name := "fnExactSagOf", fn := fun _ => fun
  | [d1, d2, d3] => { results := [.lit (.bool false)], args := [d1, d2, d3] }
  | _ => none }
def FnExactSagOfWrongFalsely : Prop := fnExactSagOfRow.holds Try.pinned (OpenSpec.ofChange fnExactSagOfWrong)

/-- 'laws.FnExactMeetFace': WHATEVER THE INPUT: true; the input reads as it did. -/
def fnExactMeetFaceSpec : ChangeSpec := { name := "fnExactMeetFace", fn := fun _ => fun
  | [d1, d2] => { results := [.lit (.bool true)], args := [d1, d2] }
  | _ => none }
def fnExactMeetFaceRow : OpenClaim := { program := "ytjibogknakaokaa", sum := "5b4565906794c869c74272553c9a1a46d1666d9bbae1ebdf03b5e04524999bab", func := "loop.example/g00049/laws.FnExactMeetFace", spec := "fnExactMeetFace", inPlace := ["math.Float64bits", "math.Float64frombits", "math.sqrt"], unfollowed := true, recurses := true, apart := false }
def FnExactMeetFaceSaid : Prop := fnExactMeetFaceRow.holds Try.pinned (OpenSpec.ofChange fnExactMeetFaceSpec)

/-- ITS FALSE NEIGHBOUR: 'it returns false'. Refute it at one input. -/
def fnExactMeetFaceWrong : ChangeSpec := { name := "fnExactMeetFace", fn := fun _ => fun
  | [d1, d2] => { results := [.lit (.bool false)], args := [d1, d2] }
  | _ => none }
def FnExactMeetFaceWrongFalsely : Prop := fnExactMeetFaceRow.holds Try.pinned (OpenSpec.ofChange fnExactMeetFaceWrong)

/-- 'laws.FnExactBendRay': WHATEVER THE INPUT: true; the input reads as it did. -/
def fnExactBendRaySpec : ChangeSpec := { name := "fnExactBendRay", fn := fun _ => fun
  | [d1, d2, d3, d4] => { results := [.lit (.bool true)], args := [d1, d2, d3, d4] }
  | _ => none }
def fnExactBendRayRow : OpenClaim := { program := "ytjibogknakaokaa", sum := "5b4565906794c869c74272553c9a1a46d1666d9bbae1ebdf03b5e04524999bab", func := "loop.example/g00049/laws.FnExactBendRay", spec := "fnExactBendRay", inPlace := ["math.sqrt"], apart := false }
def FnExactBendRaySaid : Prop := fnExactBendRayRow.holds Try.pinned (OpenSpec.ofChange fnExactBendRaySpec)

/-- ITS FALSE NEIGHBOUR: 'it returns false'. Refute it at one input. -/
def fnExactBendRayWrong : ChangeSpec := { name := "fnExactBendRay", fn := fun _ => fun
  | [d1, d2, d3, d4] => { results := [.lit (.bool false)], args := [d1, d2, d3, d4] }
  | _ => none }
def FnExactBendRayWrongFalsely : Prop := fnExactBendRayRow.holds Try.pinned (OpenSpec.ofChange fnExactBendRayWrong)

/-- 'laws.FnExactBounceRay': WHATEVER THE INPUT: true; the input reads as it did. -/
def fnExactBounceRaySpec : ChangeSpec := { name := "fnExactBounceRay", fn := fun _ => fun
  | [d1, d2] => { results := [.lit (.bool true)], args := [d1, d2] }
  | _ => none }
def fnExactBounceRayRow : OpenClaim := { program := "ytjibogknakaokaa", sum := "5b4565906794c869c74272553c9a1a46d1666d9bbae1ebdf03b5e04524999bab", func := "loop.example/g00049/laws.FnExactBounceRay", spec := "fnExactBounceRay", apart := false }
def FnExactBounceRaySaid : Prop := fnExactBounceRayRow.holds Try.pinned (OpenSpec.ofChange fnExactBounceRaySpec)

/-- ITS FALSE NEIGHBOUR: 'it returns false'. Refute it at one input. -/
def fnExactBounceRayWrong : ChangeSpec := { name := "fnExactBounceRay", fn := fun _ => fun
  | [d1, d2] => { results := [.lit (.bool false)], args := [d1, d2] }
  | _ => none }
def FnExactBounceRayWrongFalsely : Prop := fnExactBounceRayRow.holds Try.pinned (OpenSpec.ofChange fnExactBounceRayWrong)

/-- 'laws.FnExactTraceRay': WHATEVER THE INPUT: true; the input reads as it did. -/
def fnExactTraceRaySpec : ChangeSpec := { name := "fnExactTraceRay", fn := fun _ => fun
  | [d1, d2] => { results := [.lit (.bool true)], args := [d1, d2] }
  | _ => none }
def fnExactTraceRayRow : OpenClaim := { program := "ytjibogknakaokaa", sum := "5b4565906794c869c74272553c9a1a46d1666d9bbae1ebdf03b5e04524999bab", func := "loop.example/g00049/laws.FnExactTraceRay", spec := "fnExactTraceRay", inPlace := ["math.Float64bits", "math.Float64frombits", "math.sqrt"], unfollowed := true, recurses := true, apart := false }
def FnExactTraceRaySaid : Prop := fnExactTraceRayRow.holds Try.pinned (OpenSpec.ofChange fnExactTraceRaySpec)

/-- ITS FALSE NEIGHBOUR: 'it returns false'. Refute it at one input. -/
def fnExactTraceRayWrong : ChangeSpec := { name := "fnExactTraceRay", fn := fun _ => fun
  | [d1, d2] => { results := [.lit (.bool false)], args := [d1, d2] }
  | _ => none }
def FnExactTraceRayWrongFalsely : Prop := fnExactTraceRayRow.holds Try.pinned (OpenSpec.ofChange fnExactTraceRayWrong)

/-- 'laws.FnExactGhostPaths': WHATEVER THE INPUT: true; the input reads as it did. -/
def fnExactGhostPathsSpec : ChangeSpec := { name := "fnExactGhostPaths", fn := fun _ => fun
  | [d1, d2] => { results := [.lit (.bool true)], args := [d1, d2] }
  | _ => none }
def fnExactGhostPathsRow : OpenClaim := { program := "ytjibogknakaokaa", sum := "5b4565906794c869c74272553c9a1a46d1666d9bbae1ebdf03b5e04524999bab", func := "loop.example/g00049/laws.FnExactGhostPaths", spec := "fnExactGhostPaths", recurses := true, apart := false }
def FnExactGhostPathsSaid : Prop := fnExactGhostPathsRow.holds Try.pinned (OpenSpec.ofChange fnExactGhostPathsSpec)

/-- ITS FALSE NEIGHBOUR: 'it returns false'. Refute it at one input. -/
def fnExactGhostPathsWrong : ChangeSpec := { name := "fnExactGhostPaths", fn := fun _ => fun
  | [d1, d2] => { results := [.lit (.bool false)], args := [d1, d2] }
  | _ => none }
def FnExactGhostPathsWrongFalsely : Prop := fnExactGhostPathsRow.holds Try.pinned (OpenSpec.ofChange fnExactGhostPathsWrong)

/- THE SECOND FORM. 'bulk': how many values and letters a reading holds, each counted each time it is reached (what is shared counts as often as it is met; a slice's spare places count too). A statement '..UptoSaid' is the law's where the arguments, and the package variables that the reading takes, are together of bulk at most 1048576: NARROWER than '..Said'. Prove '..Said' where nothing that the law and all that it calls make is longer than what came in: it says more and counts as full. Else prove '..UptoSaid'. A law counts once. -/
mutual
def uptoBulk {H : Type} : DataW H → Nat
  | .lit (.string bytes) => bytes.length + 1
  | .lit _ => 1
  | .nil => 1
  | .ptr d => uptoBulk d + 1
  | .slice elems spare => uptoBulkAll elems + uptoBulkAll spare + 1
  | .agg parts => uptoBulkAll parts + 1
  | .iface _ d => uptoBulk d + 1
  | .map entries => uptoBulkEntries entries + 1
  | .held _ => 1
def uptoBulkAll {H : Type} : List (DataW H) → Nat
  | [] => 0
  | d :: r => uptoBulk d + uptoBulkAll r
def uptoBulkEntries {H : Type} : List (Lit × DataW H) → Nat
  | [] => 0
  | x :: r => uptoBulkEntry x + uptoBulkEntries r
def uptoBulkEntry {H : Type} : Lit × DataW H → Nat
  | (.string bytes, d) => bytes.length + uptoBulk d + 1
  | (_, d) => uptoBulk d + 1
 end
def uptoSmall : (H : Type) → List (DataW H) → Bool := fun _ ds => decide (uptoBulkAll ds ≤ 1048576)
def OpenSpec.upto (s : _root_.Go.ChangeSpec) : _root_.Go.OpenSpec := { _root_.Go.OpenSpec.ofChange s with cond := some uptoSmall }

/-- 'laws.FnRays', WHERE WHAT IT READS IS OF BULK AT MOST 1048576: true; the input reads as it did. -/
def fnRaysUptoRow : OpenClaim := { program := "ytjibogknakaokaa", sum := "5b4565906794c869c74272553c9a1a46d1666d9bbae1ebdf03b5e04524999bab", func := "loop.example/g00049/laws.FnRays", spec := "fnRays", inPlace := ["math.Float64bits", "math.Float64frombits", "math.sqrt"], unfollowed := true, recurses := true, apart := false, narrowed := true }
def FnRaysUptoSaid : Prop := fnRaysUptoRow.holds Try.pinned (OpenSpec.upto fnRaysSpec)

/-- 'laws.FnGhosts', WHERE WHAT IT READS IS OF BULK AT MOST 1048576: true; the input reads as it did. -/
def fnGhostsUptoRow : OpenClaim := { program := "ytjibogknakaokaa", sum := "5b4565906794c869c74272553c9a1a46d1666d9bbae1ebdf03b5e04524999bab", func := "loop.example/g00049/laws.FnGhosts", spec := "fnGhosts", recurses := true, apart := false, narrowed := true }
def FnGhostsUptoSaid : Prop := fnGhostsUptoRow.holds Try.pinned (OpenSpec.upto fnGhostsSpec)

/-- 'laws.FnExactFacesOf', WHERE WHAT IT READS IS OF BULK AT MOST 1048576: true; the input reads as it did. -/
def fnExactFacesOfUptoRow : OpenClaim := { program := "ytjibogknakaokaa", sum := "5b4565906794c869c74272553c9a1a46d1666d9bbae1ebdf03b5e04524999bab", func := "loop.example/g00049/laws.FnExactFacesOf", spec := "fnExactFacesOf", apart := false, narrowed := true }
def FnExactFacesOfUptoSaid : Prop := fnExactFacesOfUptoRow.holds Try.pinned (OpenSpec.upto fnExactFacesOfSpec)

/-- 'laws.FnExactSagOf', WHERE WHAT IT READS IS OF BULK AT MOST 1048576: true; the input reads as it did. -/
def fnExactSagOfUptoRow : OpenClaim := { program := "ytjibogknakaokaa", sum := "5b4565906794c869c74272553c9a1a46d1666d9bbae1ebdf03b5e04524999bab", func := "loop.example/g00049/laws.FnExactSagOf", spec := "fnExactSagOf", inPlace := ["math.Float64bits", "math.Float64frombits"], unfollowed := true, recurses := true, apart := false, narrowed := true }
def FnExactSagOfUptoSaid : Prop := fnExactSagOfUptoRow.holds Try.pinned (OpenSpec.upto fnExactSagOfSpec)

/-- 'laws.FnExactMeetFace', WHERE WHAT IT READS IS OF BULK AT MOST 1048576: true; the input reads as it did. -/
def fnExactMeetFaceUptoRow : OpenClaim := { program := "ytjibogknakaokaa", sum := "5b4565906794c869c74272553c9a1a46d1666d9bbae1ebdf03b5e04524999bab", func := "loop.example/g00049/laws.FnExactMeetFace", spec := "fnExactMeetFace", inPlace := ["math.Float64bits", "math.Float64frombits", "math.sqrt"], unfollowed := true, recurses := true, apart := false, narrowed := true }
def FnExactMeetFaceUptoSaid : Prop := fnExactMeetFaceUptoRow.holds Try.pinned (OpenSpec.upto fnExactMeetFaceSpec)

/-- 'laws.FnExactBendRay', WHERE WHAT IT READS IS OF BULK AT MOST 1048576: true; the input reads as it did. -/
def fnExactBendRayUptoRow : OpenClaim := { program := "ytjibogknakaokaa", sum := "5b4565906794c869c74272553c9a1a46d1666d9bbae1ebdf03b5e04524999bab", func := "loop.example/g00049/laws.FnExactBendRay", spec := "fnExactBendRay", inPlace := ["math.sqrt"], apart := false, narrowed := true }
def FnExactBendRayUptoSaid : Prop := fnExactBendRayUptoRow.holds Try.pinned (OpenSpec.upto fnExactBendRaySpec)

/-- 'laws.FnExactBounceRay', WHERE WHAT IT READS IS OF BULK AT MOST 1048576: true; the input reads as it did. -/
def fnExactBounceRayUptoRow : OpenClaim := { program := "ytjibogknakaokaa", sum := "5b4565906794c869c74272553c9a1a46d1666d9bbae1ebdf03b5e04524999bab", func := "loop.example/g00049/laws.FnExactBounceRay", spec := "fnExactBounceRay", apart := false, narrowed := true }
def FnExactBounceRayUptoSaid : Prop := fnExactBounceRayUptoRow.holds Try.pinned (OpenSpec.upto fnExactBounceRaySpec)

/-- 'laws.FnExactTraceRay', WHERE WHAT IT READS IS OF BULK AT MOST 1048576: true; the input reads as it did. -/
def fnExactTraceRayUptoRow : OpenClaim := { program := "ytjibogknakaokaa", sum := "5b4565906794c869c74272553c9a1a46d1666d9bbae1ebdf03b5e04524999bab", func := "loop.example/g00049/laws.FnExactTraceRay", spec := "fnExactTraceRay", inPlace := ["math.Float64bits", "math.Float64frombits", "math.sqrt"], unfollowed := true, recurses := true, apart := false, narrowed := true }
def FnExactTraceRayUptoSaid : Prop := fnExactTraceRayUptoRow.holds Try.pinned (OpenSpec.upto fnExactTraceRaySpec)

/-- 'laws.FnExactGhostPaths', WHERE WHAT IT READS IS OF BULK AT MOST 1048576: true; the input reads as it did. -/
def fnExactGhostPathsUptoRow : OpenClaim := { program := "ytjibogknakaokaa", sum := "5b4565906794c869c74272553c9a1a46d1666d9bbae1ebdf03b5e04524999bab", func := "loop.example/g00049/laws.FnExactGhostPaths", spec := "fnExactGhostPaths", recurses := true, apart := false, narrowed := true }
def FnExactGhostPathsUptoSaid : Prop := fnExactGhostPathsUptoRow.holds Try.pinned (OpenSpec.upto fnExactGhostPathsSpec)

end Rows
end Go.Proofs.Ytjibogknakaokaa
