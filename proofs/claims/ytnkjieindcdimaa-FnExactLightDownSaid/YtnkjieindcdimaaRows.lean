/-
  No cell of these rows narrows 'for every input' (looked for: loops, veiled, ifaces, maps, wideKeys, modest, calm, conditions, laid).
  DERIVED. THE GIVEN ROWS OF THIS SEAT. 9 by the template 'for every input the law returns true; each argument reads behind the call as it read before'; 0 by the template 'total and deterministic' (their statements: YtnkjieindcdimaaTotals.lean).
  GIVEN WITH THE SEED: the statements are not yours to turn. If you find one false, say at which input.
  Laid BY PROGRAM, IN A SANDBOX (cutbox-rows.mjs): the forced cells as the released guide's own fill.sh prints them over the translation 30fe4dca061584f2… (all of the seat's roots in one cut). By AI agents, Wed Nov 11 2026. No macro, syntax, notation, axiom, sorry.
-/
import Derived.Test.YtnkjieindcdimaaChecked
import GoSem.Claim
import GoSem.ClaimJoined
import GoSem.ClaimMapViews
import Derived.JoinedTies
import Derived.KernelRfl
namespace Go.Proofs.Ytnkjieindcdimaa
/- THE CELL 'sum', in the pinned program and in every row, IS THE sha256 OF THE DUMP (.gsa) THAT YtnkjieindcdimaaProg.lean LOADS. Nothing in Lean hashes anything: it is a label: what it is worth is what the hold of that sum in a sandbox is worth. -/
noncomputable def Try.pinned : Pinned := { name := "ytnkjieindcdimaa", sum := "30fe4dca061584f27d82a859b8c46918523c64d420284866d0e1fde0da11dfe2", checked := Try.checked }
namespace Rows
def none {H : Type} : Left H := { results := [], args := [] }

/-- 'laws.FnExactNetFault': WHATEVER THE INPUT: true; the input reads as it did. -/
def fnExactNetFaultSpec : ChangeSpec := { name := "fnExactNetFault", fn := fun _ => fun
  | [d] => { results := [.lit (.bool true)], args := [d] }
  | _ => none }
def fnExactNetFaultRow : OpenClaim := { program := "ytnkjieindcdimaa", sum := "30fe4dca061584f27d82a859b8c46918523c64d420284866d0e1fde0da11dfe2", func := "loop.example/g00049/laws.FnExactNetFault", spec := "fnExactNetFault", unfollowed := true, recurses := true, plainKeys := false, apart := false }
def FnExactNetFaultSaid : Prop := fnExactNetFaultRow.holds Try.pinned (OpenSpec.ofChange fnExactNetFaultSpec)

/-- ITS FALSE NEIGHBOUR: 'it returns false'. Refute it at one input. -/
def fnExactNetFaultWrong : ChangeSpec := { name := "fnExactNetFault", fn := fun _ => fun
  | [d] => { results := [.lit (.bool false)], args := [d] }
  | _ => none }
def FnExactNetFaultWrongFalsely : Prop := fnExactNetFaultRow.holds Try.pinned (OpenSpec.ofChange fnExactNetFaultWrong)

/-- 'laws.FnExactRouteFault': WHATEVER THE INPUT: true; the input reads as it did. -/
def fnExactRouteFaultSpec : ChangeSpec := { name := "fnExactRouteFault", fn := fun _ => fun
  | [d1, d2, d3, d4] => { results := [.lit (.bool true)], args := [d1, d2, d3, d4] }
  | _ => none }
def fnExactRouteFaultRow : OpenClaim := { program := "ytnkjieindcdimaa", sum := "30fe4dca061584f27d82a859b8c46918523c64d420284866d0e1fde0da11dfe2", func := "loop.example/g00049/laws.FnExactRouteFault", spec := "fnExactRouteFault", unfollowed := true, recurses := true, plainKeys := false, apart := false }
def FnExactRouteFaultSaid : Prop := fnExactRouteFaultRow.holds Try.pinned (OpenSpec.ofChange fnExactRouteFaultSpec)

/-- ITS FALSE NEIGHBOUR: 'it returns false'. Refute it at one input. -/
def fnExactRouteFaultWrong : ChangeSpec := { name := "fnExactRouteFault", fn := fun _ => fun
  | [d1, d2, d3, d4] => { results := [.lit (.bool false)], args := [d1, d2, d3, d4] }
  | _ => none }
def FnExactRouteFaultWrongFalsely : Prop := fnExactRouteFaultRow.holds Try.pinned (OpenSpec.ofChange fnExactRouteFaultWrong)

/-- 'laws.FnExactRouteKm': WHATEVER THE INPUT: true; the input reads as it did. -/
def fnExactRouteKmSpec : ChangeSpec := { name := "fnExactRouteKm", fn := fun _ => fun
  | [d1, d2] => { results := [.lit (.bool true)], args := [d1, d2] }
  | _ => none }
def fnExactRouteKmRow : OpenClaim := { program := "ytnkjieindcdimaa", sum := "30fe4dca061584f27d82a859b8c46918523c64d420284866d0e1fde0da11dfe2", func := "loop.example/g00049/laws.FnExactRouteKm", spec := "fnExactRouteKm", unfollowed := true, recurses := true, plainKeys := false, apart := false }
def FnExactRouteKmSaid : Prop := fnExactRouteKmRow.holds Try.pinned (OpenSpec.ofChange fnExactRouteKmSpec)

/-- ITS FALSE NEIGHBOUR: 'it returns false'. Refute it at one input. -/
def fnExactRouteKmWrong : ChangeSpec := { name := "fnExactRouteKm", fn := fun _ => fun
  | [d1, d2] => { results := [.lit (.bool false)], args := [d1, d2] }
  | _ => none }
def FnExactRouteKmWrongFalsely : Prop := fnExactRouteKmRow.holds Try.pinned (OpenSpec.ofChange fnExactRouteKmWrong)

/-- 'laws.FnExactRoutesOf': WHATEVER THE INPUT: true; the input reads as it did. -/
def fnExactRoutesOfSpec : ChangeSpec := { name := "fnExactRoutesOf", fn := fun _ => fun
  | [d1, d2, d3, d4] => { results := [.lit (.bool true)], args := [d1, d2, d3, d4] }
  | _ => none }
def fnExactRoutesOfRow : OpenClaim := { program := "ytnkjieindcdimaa", sum := "30fe4dca061584f27d82a859b8c46918523c64d420284866d0e1fde0da11dfe2", func := "loop.example/g00049/laws.FnExactRoutesOf", spec := "fnExactRoutesOf", unfollowed := true, recurses := true, plainKeys := false, apart := false }
def FnExactRoutesOfSaid : Prop := fnExactRoutesOfRow.holds Try.pinned (OpenSpec.ofChange fnExactRoutesOfSpec)

/-- ITS FALSE NEIGHBOUR: 'it returns false'. Refute it at one input. -/
def fnExactRoutesOfWrong : ChangeSpec := { name := "fnExactRoutesOf", fn := fun _ => fun
  | [d1, d2, d3, d4] => { results := [.lit (.bool false)], args := [d1, d2, d3, d4] }
  | _ => none }
def FnExactRoutesOfWrongFalsely : Prop := fnExactRoutesOfRow.holds Try.pinned (OpenSpec.ofChange fnExactRoutesOfWrong)

/-- 'laws.FnExactLitsFault': WHATEVER THE INPUT: true; the input reads as it did. -/
def fnExactLitsFaultSpec : ChangeSpec := { name := "fnExactLitsFault", fn := fun _ => fun
  | [d1, d2] => { results := [.lit (.bool true)], args := [d1, d2] }
  | _ => none }
def fnExactLitsFaultRow : OpenClaim := { program := "ytnkjieindcdimaa", sum := "30fe4dca061584f27d82a859b8c46918523c64d420284866d0e1fde0da11dfe2", func := "loop.example/g00049/laws.FnExactLitsFault", spec := "fnExactLitsFault", unfollowed := true, recurses := true, plainKeys := false, apart := false }
def FnExactLitsFaultSaid : Prop := fnExactLitsFaultRow.holds Try.pinned (OpenSpec.ofChange fnExactLitsFaultSpec)

/-- ITS FALSE NEIGHBOUR: 'it returns false'. Refute it at one input. -/
def fnExactLitsFaultWrong : ChangeSpec := { name := "fnExactLitsFault", fn := fun _ => fun
  | [d1, d2] => { results := [.lit (.bool false)], args := [d1, d2] }
  | _ => none }
def FnExactLitsFaultWrongFalsely : Prop := fnExactLitsFaultRow.holds Try.pinned (OpenSpec.ofChange fnExactLitsFaultWrong)

/-- 'laws.FnExactSlotMap': WHATEVER THE INPUT: true; the input reads as it did. -/
def fnExactSlotMapSpec : ChangeSpec := { name := "fnExactSlotMap", fn := fun _ => fun
  | [d1, d2] => { results := [.lit (.bool true)], args := [d1, d2] }
  | _ => none }
def fnExactSlotMapRow : OpenClaim := { program := "ytnkjieindcdimaa", sum := "30fe4dca061584f27d82a859b8c46918523c64d420284866d0e1fde0da11dfe2", func := "loop.example/g00049/laws.FnExactSlotMap", spec := "fnExactSlotMap", unfollowed := true, recurses := true, plainKeys := false, apart := false }
def FnExactSlotMapSaid : Prop := fnExactSlotMapRow.holds Try.pinned (OpenSpec.ofChange fnExactSlotMapSpec)

/-- ITS FALSE NEIGHBOUR: 'it returns false'. Refute it at one input. -/
def fnExactSlotMapWrong : ChangeSpec := { name := "fnExactSlotMap", fn := fun _ => fun
  | [d1, d2] => { results := [.lit (.bool false)], args := [d1, d2] }
  | _ => none }
def FnExactSlotMapWrongFalsely : Prop := fnExactSlotMapRow.holds Try.pinned (OpenSpec.ofChange fnExactSlotMapWrong)

/-- 'laws.FnExactFreeSlots': WHATEVER THE INPUT: true; the input reads as it did. -/
def fnExactFreeSlotsSpec : ChangeSpec := { name := "fnExactFreeSlots", fn := fun _ => fun
  | [d1, d2, d3] => { results := [.lit (.bool true)], args := [d1, d2, d3] }
  | _ => none }
def fnExactFreeSlotsRow : OpenClaim := { program := "ytnkjieindcdimaa", sum := "30fe4dca061584f27d82a859b8c46918523c64d420284866d0e1fde0da11dfe2", func := "loop.example/g00049/laws.FnExactFreeSlots", spec := "fnExactFreeSlots", unfollowed := true, recurses := true, plainKeys := false, apart := false }
def FnExactFreeSlotsSaid : Prop := fnExactFreeSlotsRow.holds Try.pinned (OpenSpec.ofChange fnExactFreeSlotsSpec)

/-- ITS FALSE NEIGHBOUR: 'it returns false'. Refute it at one input. -/
def fnExactFreeSlotsWrong : ChangeSpec := { name := "fnExactFreeSlots", fn := fun _ => fun
  | [d1, d2, d3] => { results := [.lit (.bool false)], args := [d1, d2, d3] }
  | _ => none }
def FnExactFreeSlotsWrongFalsely : Prop := fnExactFreeSlotsRow.holds Try.pinned (OpenSpec.ofChange fnExactFreeSlotsWrong)

/-- 'laws.FnExactFirstFit': WHATEVER THE INPUT: true; the input reads as it did. -/
def fnExactFirstFitSpec : ChangeSpec := { name := "fnExactFirstFit", fn := fun _ => fun
  | [d1, d2, d3, d4] => { results := [.lit (.bool true)], args := [d1, d2, d3, d4] }
  | _ => none }
def fnExactFirstFitRow : OpenClaim := { program := "ytnkjieindcdimaa", sum := "30fe4dca061584f27d82a859b8c46918523c64d420284866d0e1fde0da11dfe2", func := "loop.example/g00049/laws.FnExactFirstFit", spec := "fnExactFirstFit", unfollowed := true, recurses := true, plainKeys := false, apart := false }
def FnExactFirstFitSaid : Prop := fnExactFirstFitRow.holds Try.pinned (OpenSpec.ofChange fnExactFirstFitSpec)

/-- ITS FALSE NEIGHBOUR: 'it returns false'. Refute it at one input. -/
def fnExactFirstFitWrong : ChangeSpec := { name := "fnExactFirstFit", fn := fun _ => fun
  | [d1, d2, d3, d4] => { results := [.lit (.bool false)], args := [d1, d2, d3, d4] }
  | _ => none }
def FnExactFirstFitWrongFalsely : Prop := fnExactFirstFitRow.holds Try.pinned (OpenSpec.ofChange fnExactFirstFitWrong)

/-- 'laws.FnExactLightDown': WHATEVER THE INPUT: true; the input reads as it did. -/
def fnExactLightDownSpec : ChangeSpec := { name := "fnExactLightDown", fn := fun _ => fun
  | [d1, d2, d3] => { results := [.lit (.bool true)], args := [d1, d2, d3] }
  | _ => none }
def fnExactLightDownRow : OpenClaim := { program := "ytnkjieindcdimaa", sum := "30fe4dca061584f27d82a859b8c46918523c64d420284866d0e1fde0da11dfe2", func := "loop.example/g00049/laws.FnExactLightDown", spec := "fnExactLightDown", unfollowed := true, recurses := true, plainKeys := false, apart := false }
def FnExactLightDownSaid : Prop := fnExactLightDownRow.holds Try.pinned (OpenSpec.ofChange fnExactLightDownSpec)

/-- ITS FALSE NEIGHBOUR: 'it returns false'. Refute it at one input. -/
def fnExactLightDownWrong : ChangeSpec := { name := "fnExactLightDown", fn := fun _ => fun
  | [d1, d2, d3] => { results := [.lit (.bool false)], args := [d1, d2, d3] }
  | _ => none }
def FnExactLightDownWrongFalsely : Prop := fnExactLightDownRow.holds Try.pinned (OpenSpec.ofChange fnExactLightDownWrong)

/- THE SECOND FORM. 'bulk': how many values and letters a reading holds, each counted each time it is reached (what is shared counts as often as it is met; a slice's spare places count too). A statement '..UptoSaid' is the law's where the arguments, and the package variables that the reading takes, are together of bulk at most 1048576: NARROWER than '..Said'. Prove '..Said' where nothing that the law and all that it calls make is longer than what came in: it says more and counts as full. Else prove '..UptoSaid'. A law counts once. -/
mutual
def uptoBulk {H : Type} : DataW H → Nat
  | .lit (.string bytes) => bytes.length + 1
  | .lit _ => 1
  | .nil => 1
  | .ptr d => uptoBulk d + 1
  | .slice elems spare => uptoBulkAll elems + uptoBulkAll spare + 1
  | .agg parts => uptoBulkAll parts + 1
  | .iface _ d => uptoBulk d + 1
  | .map entries => uptoBulkEntries entries + 1
  | .held _ => 1
def uptoBulkAll {H : Type} : List (DataW H) → Nat
  | [] => 0
  | d :: r => uptoBulk d + uptoBulkAll r
def uptoBulkEntries {H : Type} : List (Lit × DataW H) → Nat
  | [] => 0
  | x :: r => uptoBulkEntry x + uptoBulkEntries r
def uptoBulkEntry {H : Type} : Lit × DataW H → Nat
  | (.string bytes, d) => bytes.length + uptoBulk d + 1
  | (_, d) => uptoBulk d + 1
 end
def uptoSmall : (H : Type) → List (DataW H) → Bool := fun _ ds => decide (uptoBulkAll ds ≤ 1048576)
def OpenSpec.upto (s : _root_.Go.ChangeSpec) : _root_.Go.OpenSpec := { _root_.Go.OpenSpec.ofChange s with cond := some uptoSmall }

/-- 'laws.FnExactNetFault', WHERE WHAT IT READS IS OF BULK AT MOST 1048576: true; the input reads as it did. -/
def fnExactNetFaultUptoRow : OpenClaim := { program := "ytnkjieindcdimaa", sum := "30fe4dca061584f27d82a859b8c46918523c64d420284866d0e1fde0da11dfe2", func := "loop.example/g00049/laws.FnExactNetFault", spec := "fnExactNetFault", unfollowed := true, recurses := true, plainKeys := false, apart := false, narrowed := true }
def FnExactNetFaultUptoSaid : Prop := fnExactNetFaultUptoRow.holds Try.pinned (OpenSpec.upto fnExactNetFaultSpec)

/-- 'laws.FnExactRouteFault', WHERE WHAT IT READS IS OF BULK AT MOST 1048576: true; the input reads as it did. -/
def fnExactRouteFaultUptoRow : OpenClaim := { program := "ytnkjieindcdimaa", sum := "30fe4dca061584f27d82a859b8c46918523c64d420284866d0e1fde0da11dfe2", func := "loop.example/g00049/laws.FnExactRouteFault", spec := "fnExactRouteFault", unfollowed := true, recurses := true, plainKeys := false, apart := false, narrowed := true }
def FnExactRouteFaultUptoSaid : Prop := fnExactRouteFaultUptoRow.holds Try.pinned (OpenSpec.upto fnExactRouteFaultSpec)

/-- 'laws.FnExactRouteKm', WHERE WHAT IT READS IS OF BULK AT MOST 1048576: true; the input reads as it did. -/
def fnExactRouteKmUptoRow : OpenClaim := { program := "ytnkjieindcdimaa", sum := "30fe4dca061584f27d82a859b8c46918523c64d420284866d0e1fde0da11dfe2", func := "loop.example/g00049/laws.FnExactRouteKm", spec := "fnExactRouteKm", unfollowed := true, recurses := true, plainKeys := false, apart := false, narrowed := true }
def FnExactRouteKmUptoSaid : Prop := fnExactRouteKmUptoRow.holds Try.pinned (OpenSpec.upto fnExactRouteKmSpec)

/-- 'laws.FnExactRoutesOf', WHERE WHAT IT READS IS OF BULK AT MOST 1048576: true; the input reads as it did. -/
def fnExactRoutesOfUptoRow : OpenClaim := { program := "ytnkjieindcdimaa", sum := "30fe4dca061584f27d82a859b8c46918523c64d420284866d0e1fde0da11dfe2", func := "loop.example/g00049/laws.FnExactRoutesOf", spec := "fnExactRoutesOf", unfollowed := true, recurses := true, plainKeys := false, apart := false, narrowed := true }
def FnExactRoutesOfUptoSaid : Prop := fnExactRoutesOfUptoRow.holds Try.pinned (OpenSpec.upto fnExactRoutesOfSpec)

/-- 'laws.FnExactLitsFault', WHERE WHAT IT READS IS OF BULK AT MOST 1048576: true; the input reads as it did. -/
def fnExactLitsFaultUptoRow : OpenClaim := { program := "ytnkjieindcdimaa", sum := "30fe4dca061584f27d82a859b8c46918523c64d420284866d0e1fde0da11dfe2", func := "loop.example/g00049/laws.FnExactLitsFault", spec := "fnExactLitsFault", unfollowed := true, recurses := true, plainKeys := false, apart := false, narrowed := true }
def FnExactLitsFaultUptoSaid : Prop := fnExactLitsFaultUptoRow.holds Try.pinned (OpenSpec.upto fnExactLitsFaultSpec)

/-- 'laws.FnExactSlotMap', WHERE WHAT IT READS IS OF BULK AT MOST 1048576: true; the input reads as it did. -/
def fnExactSlotMapUptoRow : OpenClaim := { program := "ytnkjieindcdimaa", sum := "30fe4dca061584f27d82a859b8c46918523c64d420284866d0e1fde0da11dfe2", func := "loop.example/g00049/laws.FnExactSlotMap", spec := "fnExactSlotMap", unfollowed := true, recurses := true, plainKeys := false, apart := false, narrowed := true }
def FnExactSlotMapUptoSaid : Prop := fnExactSlotMapUptoRow.holds Try.pinned (OpenSpec.upto fnExactSlotMapSpec)

/-- 'laws.FnExactFreeSlots', WHERE WHAT IT READS IS OF BULK AT MOST 1048576: true; the input reads as it did. -/
def fnExactFreeSlotsUptoRow : OpenClaim := { program := "ytnkjieindcdimaa", sum := "30fe4dca061584f27d82a859b8c46918523c64d420284866d0e1fde0da11dfe2", func := "loop.example/g00049/laws.FnExactFreeSlots", spec := "fnExactFreeSlots", unfollowed := true, recurses := true, plainKeys := false, apart := false, narrowed := true }
def FnExactFreeSlotsUptoSaid : Prop := fnExactFreeSlotsUptoRow.holds Try.pinned (OpenSpec.upto fnExactFreeSlotsSpec)

/-- 'laws.FnExactFirstFit', WHERE WHAT IT READS IS OF BULK AT MOST 1048576: true; the input reads as it did. -/
def fnExactFirstFitUptoRow : OpenClaim := { program := "ytnkjieindcdimaa", sum := "30fe4dca061584f27d82a859b8c46918523c64d420284866d0e1fde0da11dfe2", func := "loop.example/g00049/laws.FnExactFirstFit", spec := "fnExactFirstFit", unfollowed := true, recurses := true, plainKeys := false, apart := false, narrowed := true }
def FnExactFirstFitUptoSaid : Prop := fnExactFirstFitUptoRow.holds Try.pinned (OpenSpec.upto fnExactFirstFitSpec)

/-- 'laws.FnExactLightDown', WHERE WHAT IT READS IS OF BULK AT MOST 1048576: true; the input reads as it did. -/
def fnExactLightDownUptoRow : OpenClaim := { program := "ytnkjieindcdimaa", sum := "30fe4dca061584f27d82a859b8c46918523c64d420284866d0e1fde0da11dfe2", func := "loop.example/g00049/laws.FnExactLightDown", spec := "fnExactLightDown", unfollowed := true, recurses := true, plainKeys := false, apart := false, narrowed := true }
def FnExactLightDownUptoSaid : Prop := fnExactLightDownUptoRow.holds Try.pinned (OpenSpec.upto fnExactLightDownSpec)

end Rows
end Go.Proofs.Ytnkjieindcdimaa
