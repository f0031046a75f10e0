/-
  No cell of these rows narrows 'for every input' (looked for: loops, veiled, ifaces, maps, wideKeys, modest, calm, conditions, laid).
  DERIVED. THE GIVEN ROWS OF THIS SEAT. 10 by the template 'for every input the law returns true; each argument reads behind the call as it read before'; 0 by the template 'total and deterministic' (their statements: YtkkajcdjkfbcgaaTotals.lean).
  GIVEN WITH THE SEED: the statements are not yours to turn. If you find one false, say at which input.
  Laid BY PROGRAM, IN A SANDBOX (cutbox-rows.mjs): the forced cells as the released guide's own fill.sh prints them over the translation 939ca281dd3ac7ab… (all of the seat's roots in one cut). By AI agents, Wed Nov 11 2026. No macro, syntax, notation, axiom, sorry.
-/
import Derived.Test.YtkkajcdjkfbcgaaChecked
import GoSem.Claim
import GoSem.ClaimJoined
import GoSem.ClaimMapViews
import Derived.JoinedTies
import Derived.KernelRfl
namespace Go.Proofs.Ytkkajcdjkfbcgaa
/- THE CELL 'sum', in the pinned program and in every row, IS THE sha256 OF THE DUMP (.gsa) THAT YtkkajcdjkfbcgaaProg.lean LOADS. Nothing in Lean hashes anything: it is a label: what it is worth is what the hold of that sum in a sandbox is worth. -/
noncomputable def Try.pinned : Pinned := { name := "ytkkajcdjkfbcgaa", sum := "939ca281dd3ac7ab4048e9471576eb1a5816c46f86bbdaefa203532787abb67b", checked := Try.checked }
namespace Rows
def none {H : Type} : Left H := { results := [], args := [] }

/-- 'laws.FnLocks': WHATEVER THE INPUT: true; the input reads as it did. -/
def fnLocksSpec : ChangeSpec := { name := "fnLocks", fn := fun _ => fun
  | [d] => { results := [.lit (.bool true)], args := [d] }
  | _ => none }
def fnLocksRow : OpenClaim := { program := "ytkkajcdjkfbcgaa", sum := "939ca281dd3ac7ab4048e9471576eb1a5816c46f86bbdaefa203532787abb67b", func := "loop.example/g00049/laws.FnLocks", spec := "fnLocks", apart := false }
def FnLocksSaid : Prop := fnLocksRow.holds Try.pinned (OpenSpec.ofChange fnLocksSpec)

/-- ITS FALSE NEIGHBOUR: 'it returns false'. Refute it at one input. -/
def fnLocksWrong : ChangeSpec := { name := "fnLocks", fn := fun _ => fun
  | [d] => { results := [.lit (.bool false)], args := [d] }
  | _ => none }
def FnLocksWrongFalsely : Prop := fnLocksRow.holds Try.pinned (OpenSpec.ofChange fnLocksWrong)

/-- 'laws.FnCavities': WHATEVER THE INPUT: true; the input reads as it did. -/
def fnCavitiesSpec : ChangeSpec := { name := "fnCavities", fn := fun _ => fun
  | [d] => { results := [.lit (.bool true)], args := [d] }
  | _ => none }
def fnCavitiesRow : OpenClaim := { program := "ytkkajcdjkfbcgaa", sum := "939ca281dd3ac7ab4048e9471576eb1a5816c46f86bbdaefa203532787abb67b", func := "loop.example/g00049/laws.FnCavities", spec := "fnCavities", apart := false }
def FnCavitiesSaid : Prop := fnCavitiesRow.holds Try.pinned (OpenSpec.ofChange fnCavitiesSpec)

/-- ITS FALSE NEIGHBOUR: 'it returns false'. Refute it at one input. -/
def fnCavitiesWrong : ChangeSpec := { name := "fnCavities", fn := fun _ => fun
  | [d] => { results := [.lit (.bool false)], args := [d] }
  | _ => none }
def FnCavitiesWrongFalsely : Prop := fnCavitiesRow.holds Try.pinned (OpenSpec.ofChange fnCavitiesWrong)

/-- 'laws.FnExactSplitCounts': WHATEVER THE INPUT: true; the input reads as it did. -/
def fnExactSplitCountsSpec : ChangeSpec := { name := "fnExactSplitCounts", fn := fun _ => fun
  | [d1, d2, d3, d4] => { results := [.lit (.bool true)], args := [d1, d2, d3, d4] }
  | _ => none }
def fnExactSplitCountsRow : OpenClaim := { program := "ytkkajcdjkfbcgaa", sum := "939ca281dd3ac7ab4048e9471576eb1a5816c46f86bbdaefa203532787abb67b", func := "loop.example/g00049/laws.FnExactSplitCounts", spec := "fnExactSplitCounts", unfollowed := true, recurses := true, apart := false }
def FnExactSplitCountsSaid : Prop := fnExactSplitCountsRow.holds Try.pinned (OpenSpec.ofChange fnExactSplitCountsSpec)

/-- ITS FALSE NEIGHBOUR: 'it returns false'. Refute it at one input. -/
def fnExactSplitCountsWrong : ChangeSpec := { name := "fnExactSplitCounts", fn := fun _ => fun
  | [d1, d2, d3, d4] => { results := [.lit (.bool false)], args := [d1, d2, d3, d4] }
  | _ => none }
def FnExactSplitCountsWrongFalsely : Prop := fnExactSplitCountsRow.holds Try.pinned (OpenSpec.ofChange fnExactSplitCountsWrong)

/-- 'laws.FnExactTreeCounts': WHATEVER THE INPUT: true; the input reads as it did. -/
def fnExactTreeCountsSpec : ChangeSpec := { name := "fnExactTreeCounts", fn := fun _ => fun
  | [d1, d2, d3] => { results := [.lit (.bool true)], args := [d1, d2, d3] }
  | _ => none }
def fnExactTreeCountsRow : OpenClaim := { program := "ytkkajcdjkfbcgaa", sum := "939ca281dd3ac7ab4048e9471576eb1a5816c46f86bbdaefa203532787abb67b", func := "loop.example/g00049/laws.FnExactTreeCounts", spec := "fnExactTreeCounts", unfollowed := true, recurses := true, apart := false }
def FnExactTreeCountsSaid : Prop := fnExactTreeCountsRow.holds Try.pinned (OpenSpec.ofChange fnExactTreeCountsSpec)

/-- ITS FALSE NEIGHBOUR: 'it returns false'. Refute it at one input. -/
def fnExactTreeCountsWrong : ChangeSpec := { name := "fnExactTreeCounts", fn := fun _ => fun
  | [d1, d2, d3] => { results := [.lit (.bool false)], args := [d1, d2, d3] }
  | _ => none }
def FnExactTreeCountsWrongFalsely : Prop := fnExactTreeCountsRow.holds Try.pinned (OpenSpec.ofChange fnExactTreeCountsWrong)

/-- 'laws.FnExactLockIn': WHATEVER THE INPUT: true; the input reads as it did. -/
def fnExactLockInSpec : ChangeSpec := { name := "fnExactLockIn", fn := fun _ => fun
  | [d1, d2] => { results := [.lit (.bool true)], args := [d1, d2] }
  | _ => none }
def fnExactLockInRow : OpenClaim := { program := "ytkkajcdjkfbcgaa", sum := "939ca281dd3ac7ab4048e9471576eb1a5816c46f86bbdaefa203532787abb67b", func := "loop.example/g00049/laws.FnExactLockIn", spec := "fnExactLockIn", apart := false }
def FnExactLockInSaid : Prop := fnExactLockInRow.holds Try.pinned (OpenSpec.ofChange fnExactLockInSpec)

/-- ITS FALSE NEIGHBOUR: 'it returns false'. Refute it at one input. -/
def fnExactLockInWrong : ChangeSpec := { name := "fnExactLockIn", fn := fun _ => fun
  | [d1, d2] => { results := [.lit (.bool false)], args := [d1, d2] }
  | _ => none }
def FnExactLockInWrongFalsely : Prop := fnExactLockInRow.holds Try.pinned (OpenSpec.ofChange fnExactLockInWrong)

/-- 'laws.FnExactCavityOf': WHATEVER THE INPUT: true; the input reads as it did. -/
def fnExactCavityOfSpec : ChangeSpec := { name := "fnExactCavityOf", fn := fun _ => fun
  | [d1, d2, d3] => { results := [.lit (.bool true)], args := [d1, d2, d3] }
  | _ => none }
def fnExactCavityOfRow : OpenClaim := { program := "ytkkajcdjkfbcgaa", sum := "939ca281dd3ac7ab4048e9471576eb1a5816c46f86bbdaefa203532787abb67b", func := "loop.example/g00049/laws.FnExactCavityOf", spec := "fnExactCavityOf", apart := false }
def FnExactCavityOfSaid : Prop := fnExactCavityOfRow.holds Try.pinned (OpenSpec.ofChange fnExactCavityOfSpec)

/-- ITS FALSE NEIGHBOUR: 'it returns false'. Refute it at one input. -/
def fnExactCavityOfWrong : ChangeSpec := { name := "fnExactCavityOf", fn := fun _ => fun
  | [d1, d2, d3] => { results := [.lit (.bool false)], args := [d1, d2, d3] }
  | _ => none }
def FnExactCavityOfWrongFalsely : Prop := fnExactCavityOfRow.holds Try.pinned (OpenSpec.ofChange fnExactCavityOfWrong)

/-- 'laws.FnExactTripOf': WHATEVER THE INPUT: true; the input reads as it did. -/
def fnExactTripOfSpec : ChangeSpec := { name := "fnExactTripOf", fn := fun _ => fun
  | [d1, d2, d3] => { results := [.lit (.bool true)], args := [d1, d2, d3] }
  | _ => none }
def fnExactTripOfRow : OpenClaim := { program := "ytkkajcdjkfbcgaa", sum := "939ca281dd3ac7ab4048e9471576eb1a5816c46f86bbdaefa203532787abb67b", func := "loop.example/g00049/laws.FnExactTripOf", spec := "fnExactTripOf", apart := false }
def FnExactTripOfSaid : Prop := fnExactTripOfRow.holds Try.pinned (OpenSpec.ofChange fnExactTripOfSpec)

/-- ITS FALSE NEIGHBOUR: 'it returns false'. Refute it at one input. -/
def fnExactTripOfWrong : ChangeSpec := { name := "fnExactTripOf", fn := fun _ => fun
  | [d1, d2, d3] => { results := [.lit (.bool false)], args := [d1, d2, d3] }
  | _ => none }
def FnExactTripOfWrongFalsely : Prop := fnExactTripOfRow.holds Try.pinned (OpenSpec.ofChange fnExactTripOfWrong)

/-- 'laws.FnExactLaserFault': WHATEVER THE INPUT: true; the input reads as it did. -/
def fnExactLaserFaultSpec : ChangeSpec := { name := "fnExactLaserFault", fn := fun _ => fun
  | [d] => { results := [.lit (.bool true)], args := [d] }
  | _ => none }
def fnExactLaserFaultRow : OpenClaim := { program := "ytkkajcdjkfbcgaa", sum := "939ca281dd3ac7ab4048e9471576eb1a5816c46f86bbdaefa203532787abb67b", func := "loop.example/g00049/laws.FnExactLaserFault", spec := "fnExactLaserFault", apart := false }
def FnExactLaserFaultSaid : Prop := fnExactLaserFaultRow.holds Try.pinned (OpenSpec.ofChange fnExactLaserFaultSpec)

/-- ITS FALSE NEIGHBOUR: 'it returns false'. Refute it at one input. -/
def fnExactLaserFaultWrong : ChangeSpec := { name := "fnExactLaserFault", fn := fun _ => fun
  | [d] => { results := [.lit (.bool false)], args := [d] }
  | _ => none }
def FnExactLaserFaultWrongFalsely : Prop := fnExactLaserFaultRow.holds Try.pinned (OpenSpec.ofChange fnExactLaserFaultWrong)

/-- 'laws.FnExactRunLaser': WHATEVER THE INPUT: true; the input reads as it did. -/
def fnExactRunLaserSpec : ChangeSpec := { name := "fnExactRunLaser", fn := fun _ => fun
  | [d1, d2] => { results := [.lit (.bool true)], args := [d1, d2] }
  | _ => none }
def fnExactRunLaserRow : OpenClaim := { program := "ytkkajcdjkfbcgaa", sum := "939ca281dd3ac7ab4048e9471576eb1a5816c46f86bbdaefa203532787abb67b", func := "loop.example/g00049/laws.FnExactRunLaser", spec := "fnExactRunLaser", unfollowed := true, recurses := true, apart := false }
def FnExactRunLaserSaid : Prop := fnExactRunLaserRow.holds Try.pinned (OpenSpec.ofChange fnExactRunLaserSpec)

/-- ITS FALSE NEIGHBOUR: 'it returns false'. Refute it at one input. -/
def fnExactRunLaserWrong : ChangeSpec := { name := "fnExactRunLaser", fn := fun _ => fun
  | [d1, d2] => { results := [.lit (.bool false)], args := [d1, d2] }
  | _ => none }
def FnExactRunLaserWrongFalsely : Prop := fnExactRunLaserRow.holds Try.pinned (OpenSpec.ofChange fnExactRunLaserWrong)

/-- 'laws.FnExactMixPhotons': WHATEVER THE INPUT: true; the input reads as it did. -/
def fnExactMixPhotonsSpec : ChangeSpec := { name := "fnExactMixPhotons", fn := fun _ => fun
  | [d1, d2, d3, d4, d5, d6] => { results := [.lit (.bool true)], args := [d1, d2, d3, d4, d5, d6] }
  | _ => none }
def fnExactMixPhotonsRow : OpenClaim := { program := "ytkkajcdjkfbcgaa", sum := "939ca281dd3ac7ab4048e9471576eb1a5816c46f86bbdaefa203532787abb67b", func := "loop.example/g00049/laws.FnExactMixPhotons", spec := "fnExactMixPhotons", unfollowed := true, recurses := true, apart := false }
def FnExactMixPhotonsSaid : Prop := fnExactMixPhotonsRow.holds Try.pinned (OpenSpec.ofChange fnExactMixPhotonsSpec)

/-- ITS FALSE NEIGHBOUR: 'it returns false'. Refute it at one input. -/
def fnExactMixPhotonsWrong : ChangeSpec := { name := "fnExactMixPhotons", fn := fun _ => fun
  | [d1, d2, d3, d4, d5, d6] => { results := [.lit (.bool false)], args := [d1, d2, d3, d4, d5, d6] }
  | _ => none }
def FnExactMixPhotonsWrongFalsely : Prop := fnExactMixPhotonsRow.holds Try.pinned (OpenSpec.ofChange fnExactMixPhotonsWrong)

/- THE SECOND FORM. 'bulk': how many values and letters a reading holds, each counted each time it is reached (what is shared counts as often as it is met; a slice's spare places count too). A statement '..UptoSaid' is the law's where the arguments, and the package variables that the reading takes, are together of bulk at most 1048576: NARROWER than '..Said'. Prove '..Said' where nothing that the law and all that it calls make is longer than what came in: it says more and counts as full. Else prove '..UptoSaid'. A law counts once. -/
mutual
def uptoBulk {H : Type} : DataW H → Nat
  | .lit (.string bytes) => bytes.length + 1
  | .lit _ => 1
  | .nil => 1
  | .ptr d => uptoBulk d + 1
  | .slice elems spare => uptoBulkAll elems + uptoBulkAll spare + 1
  | .agg parts => uptoBulkAll parts + 1
  | .iface _ d => uptoBulk d + 1
  | .map entries => uptoBulkEntries entries + 1
  | .held _ => 1
def uptoBulkAll {H : Type} : List (DataW H) → Nat
  | [] => 0
  | d :: r => uptoBulk d + uptoBulkAll r
def uptoBulkEntries {H : Type} : List (Lit × DataW H) → Nat
  | [] => 0
  | x :: r => uptoBulkEntry x + uptoBulkEntries r
def uptoBulkEntry {H : Type} : Lit × DataW H → Nat
  | (.string bytes, d) => bytes.length + uptoBulk d + 1
  | (_, d) => uptoBulk d + 1
 end
def uptoSmall : (H : Type) → List (DataW H) → Bool := fun _ ds => decide (uptoBulkAll ds ≤ 1048576)
def OpenSpec.upto (s : _root_.Go.ChangeSpec) : _root_.Go.OpenSpec := { _root_.Go.OpenSpec.ofChange s with cond := some uptoSmall }

/-- 'laws.FnLocks', WHERE WHAT IT READS IS OF BULK AT MOST 1048576: true; the input reads as it did. -/
def fnLocksUptoRow : OpenClaim := { program := "ytkkajcdjkfbcgaa", sum := "939ca281dd3ac7ab4048e9471576eb1a5816c46f86bbdaefa203532787abb67b", func := "loop.example/g00049/laws.FnLocks", spec := "fnLocks", apart := false, narrowed := true }
def FnLocksUptoSaid : Prop := fnLocksUptoRow.holds Try.pinned (OpenSpec.upto fnLocksSpec)

/-- 'laws.FnCavities', WHERE WHAT IT READS IS OF BULK AT MOST 1048576: true; the input reads as it did. -/
def fnCavitiesUptoRow : OpenClaim := { program := "ytkkajcdjkfbcgaa", sum := "939ca281dd3ac7ab4048e9471576eb1a5816c46f86bbdaefa203532787abb67b", func := "loop.example/g00049/laws.FnCavities", spec := "fnCavities", apart := false, narrowed := true }
def FnCavitiesUptoSaid : Prop := fnCavitiesUptoRow.holds Try.pinned (OpenSpec.upto fnCavitiesSpec)

/-- 'laws.FnExactSplitCounts', WHERE WHAT IT READS IS OF BULK AT MOST 1048576: true; the input reads as it did. -/
def fnExactSplitCountsUptoRow : OpenClaim := { program := "ytkkajcdjkfbcgaa", sum := "939ca281dd3ac7ab4048e9471576eb1a5816c46f86bbdaefa203532787abb67b", func := "loop.example/g00049/laws.FnExactSplitCounts", spec := "fnExactSplitCounts", unfollowed := true, recurses := true, apart := false, narrowed := true }
def FnExactSplitCountsUptoSaid : Prop := fnExactSplitCountsUptoRow.holds Try.pinned (OpenSpec.upto fnExactSplitCountsSpec)

/-- 'laws.FnExactTreeCounts', WHERE WHAT IT READS IS OF BULK AT MOST 1048576: true; the input reads as it did. -/
def fnExactTreeCountsUptoRow : OpenClaim := { program := "ytkkajcdjkfbcgaa", sum := "939ca281dd3ac7ab4048e9471576eb1a5816c46f86bbdaefa203532787abb67b", func := "loop.example/g00049/laws.FnExactTreeCounts", spec := "fnExactTreeCounts", unfollowed := true, recurses := true, apart := false, narrowed := true }
def FnExactTreeCountsUptoSaid : Prop := fnExactTreeCountsUptoRow.holds Try.pinned (OpenSpec.upto fnExactTreeCountsSpec)

/-- 'laws.FnExactLockIn', WHERE WHAT IT READS IS OF BULK AT MOST 1048576: true; the input reads as it did. -/
def fnExactLockInUptoRow : OpenClaim := { program := "ytkkajcdjkfbcgaa", sum := "939ca281dd3ac7ab4048e9471576eb1a5816c46f86bbdaefa203532787abb67b", func := "loop.example/g00049/laws.FnExactLockIn", spec := "fnExactLockIn", apart := false, narrowed := true }
def FnExactLockInUptoSaid : Prop := fnExactLockInUptoRow.holds Try.pinned (OpenSpec.upto fnExactLockInSpec)

/-- 'laws.FnExactCavityOf', WHERE WHAT IT READS IS OF BULK AT MOST 1048576: true; the input reads as it did. -/
def fnExactCavityOfUptoRow : OpenClaim := { program := "ytkkajcdjkfbcgaa", sum := "939ca281dd3ac7ab4048e9471576eb1a5816c46f86bbdaefa203532787abb67b", func := "loop.example/g00049/laws.FnExactCavityOf", spec := "fnExactCavityOf", apart := false, narrowed := true }
def FnExactCavityOfUptoSaid : Prop := fnExactCavityOfUptoRow.holds Try.pinned (OpenSpec.upto fnExactCavityOfSpec)

/-- 'laws.FnExactTripOf', WHERE WHAT IT READS IS OF BULK AT MOST 1048576: true; the input reads as it did. -/
def fnExactTripOfUptoRow : OpenClaim := { program := "ytkkajcdjkfbcgaa", sum := "939ca281dd3ac7ab4048e9471576eb1a5816c46f86bbdaefa203532787abb67b", func := "loop.example/g00049/laws.FnExactTripOf", spec := "fnExactTripOf", apart := false, narrowed := true }
def FnExactTripOfUptoSaid : Prop := fnExactTripOfUptoRow.holds Try.pinned (OpenSpec.upto fnExactTripOfSpec)

/-- 'laws.FnExactLaserFault', WHERE WHAT IT READS IS OF BULK AT MOST 1048576: true; the input reads as it did. -/
def fnExactLaserFaultUptoRow : OpenClaim := { program := "ytkkajcdjkfbcgaa", sum := "939ca281dd3ac7ab4048e9471576eb1a5816c46f86bbdaefa203532787abb67b", func := "loop.example/g00049/laws.FnExactLaserFault", spec := "fnExactLaserFault", apart := false, narrowed := true }
def FnExactLaserFaultUptoSaid : Prop := fnExactLaserFaultUptoRow.holds Try.pinned (OpenSpec.upto fnExactLaserFaultSpec)

/-- 'laws.FnExactRunLaser', WHERE WHAT IT READS IS OF BULK AT MOST 1048576: true; the input reads as it did. -/
def fnExactRunLaserUptoRow : OpenClaim := { program := "ytkkajcdjkfbcgaa", sum := "939ca281dd3ac7ab4048e9471576eb1a5816c46f86bbdaefa203532787abb67b", func := "loop.example/g00049/laws.FnExactRunLaser", spec := "fnExactRunLaser", unfollowed := true, recurses := true, apart := false, narrowed := true }
def FnExactRunLaserUptoSaid : Prop := fnExactRunLaserUptoRow.holds Try.pinned (OpenSpec.upto fnExactRunLaserSpec)

/-- 'laws.FnExactMixPhotons', WHERE WHAT IT READS IS OF BULK AT MOST 1048576: true; the input reads as it did. -/
def fnExactMixPhotonsUptoRow : OpenClaim := { program := "ytkkajcdjkfbcgaa", sum := "939ca281dd3ac7ab4048e9471576eb1a5816c46f86bbdaefa203532787abb67b", func := "loop.example/g00049/laws.FnExactMixPhotons", spec := "fnExactMixPhotons", unfollowed := true, recurses := true, apart := false, narrowed := true }
def FnExactMixPhotonsUptoSaid : Prop := fnExactMixPhotonsUptoRow.holds Try.pinned (OpenSpec.upto fnExactMixPhotonsSpec)

end Rows
end Go.Proofs.Ytkkajcdjkfbcgaa
