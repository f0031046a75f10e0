/-
  No cell of these rows narrows 'for every input' (looked for: loops, veiled, ifaces, maps, wideKeys, modest, calm, conditions, laid).
  DERIVED. THE GIVEN ROWS OF THIS SEAT. 6 by the template 'for every input the law returns true; each argument reads behind the call as it read before'; 0 by the template 'total and deterministic' (their statements: YtnpcldgacdgplaaTotals.lean).
  GIVEN WITH THE SEED: the statements are not yours to turn. If you find one false, say at which input.
  Laid BY PROGRAM, IN A SANDBOX (cutbox-rows.mjs): the forced cells as the released guide's own fill.sh prints them over the translation 6c357cdd8a790c5a… (all of the seat's roots in one cut). By AI agents, Wed Nov 11 2026. No macro, syntax, notation, axiom, sorry.
-/
import Derived.Test.YtnpcldgacdgplaaChecked
import GoSem.Claim
import GoSem.ClaimJoined
import GoSem.ClaimMapViews
import Derived.JoinedTies
import Derived.KernelRfl
namespace Go.Proofs.Ytnpcldgacdgplaa
/- THE CELL 'sum', in the pinned program and in every row, IS THE sha256 OF THE DUMP (.gsa) THAT YtnpcldgacdgplaaProg.lean LOADS. Nothing in Lean hashes anything: it is a label: what it is worth is what the hold of that sum in a sandbox is worth. -/
noncomputable def Try.pinned : Pinned := { name := "ytnpcldgacdgplaa", sum := "6c357cdd8a790c5a03b617bfa4133f812016103037e24b0509382a61010837e5", checked := Try.checked }
namespace Rows
def none {H : Type} : Left H := { results := [], args := [] }

/-- 'laws.FnExactStackFault': WHATEVER THE INPUT: true; the input reads as it did. -/
def fnExactStackFaultSpec : ChangeSpec := { name := "fnExactStackFault", fn := fun _ => fun
  | [d] => { results := [.lit (.bool true)], args := [d] }
  | _ => none }
def fnExactStackFaultRow : OpenClaim := { program := "ytnpcldgacdgplaa", sum := "6c357cdd8a790c5a03b617bfa4133f812016103037e24b0509382a61010837e5", func := "loop.example/g00049/laws.FnExactStackFault", spec := "fnExactStackFault", unfollowed := true, recurses := true, apart := false }
def FnExactStackFaultSaid : Prop := fnExactStackFaultRow.holds Try.pinned (OpenSpec.ofChange fnExactStackFaultSpec)

/-- ITS FALSE NEIGHBOUR: 'it returns false'. Refute it at one input. -/
def fnExactStackFaultWrong : ChangeSpec := { name := "fnExactStackFault", fn := fun _ => fun
  | [d] => { results := [.lit (.bool false)], args := [d] }
  | _ => none }
def FnExactStackFaultWrongFalsely : Prop := fnExactStackFaultRow.holds Try.pinned (OpenSpec.ofChange fnExactStackFaultWrong)

/-- 'laws.FnExactLightFault': WHATEVER THE INPUT: true; the input reads as it did. -/
def fnExactLightFaultSpec : ChangeSpec := { name := "fnExactLightFault", fn := fun _ => fun
  | [d] => { results := [.lit (.bool true)], args := [d] }
  | _ => none }
def fnExactLightFaultRow : OpenClaim := { program := "ytnpcldgacdgplaa", sum := "6c357cdd8a790c5a03b617bfa4133f812016103037e24b0509382a61010837e5", func := "loop.example/g00049/laws.FnExactLightFault", spec := "fnExactLightFault", apart := false }
def FnExactLightFaultSaid : Prop := fnExactLightFaultRow.holds Try.pinned (OpenSpec.ofChange fnExactLightFaultSpec)

/-- ITS FALSE NEIGHBOUR: 'it returns false'. Refute it at one input. -/
def fnExactLightFaultWrong : ChangeSpec := { name := "fnExactLightFault", fn := fun _ => fun
  | [d] => { results := [.lit (.bool false)], args := [d] }
  | _ => none }
def FnExactLightFaultWrongFalsely : Prop := fnExactLightFaultRow.holds Try.pinned (OpenSpec.ofChange fnExactLightFaultWrong)

/-- 'laws.FnExactFilmPlate': WHATEVER THE INPUT: true; the input reads as it did. -/
def fnExactFilmPlateSpec : ChangeSpec := { name := "fnExactFilmPlate", fn := fun _ => fun
  | [d1, d2, d3] => { results := [.lit (.bool true)], args := [d1, d2, d3] }
  | _ => none }
def fnExactFilmPlateRow : OpenClaim := { program := "ytnpcldgacdgplaa", sum := "6c357cdd8a790c5a03b617bfa4133f812016103037e24b0509382a61010837e5", func := "loop.example/g00049/laws.FnExactFilmPlate", spec := "fnExactFilmPlate", inPlace := ["math.sqrt", "math.archFloor", "math.Float64bits", "math.Float64frombits", "math.archTrunc"], unfollowed := true, recurses := true, apart := false }
def FnExactFilmPlateSaid : Prop := fnExactFilmPlateRow.holds Try.pinned (OpenSpec.ofChange fnExactFilmPlateSpec)

/-- ITS FALSE NEIGHBOUR: 'it returns false'. Refute it at one input. -/
def fnExactFilmPlateWrong : ChangeSpec := { name := "fnExactFilmPlate", fn := fun _ => fun
  | [d1, d2, d3] => { results := [.lit (.bool false)], args := [d1, d2, d3] }
  | _ => none }
def FnExactFilmPlateWrongFalsely : Prop := fnExactFilmPlateRow.holds Try.pinned (OpenSpec.ofChange fnExactFilmPlateWrong)

/-- 'laws.FnExactStackPlate': WHATEVER THE INPUT: true; the input reads as it did. -/
def fnExactStackPlateSpec : ChangeSpec := { name := "fnExactStackPlate", fn := fun _ => fun
  | [d1, d2] => { results := [.lit (.bool true)], args := [d1, d2] }
  | _ => none }
def fnExactStackPlateRow : OpenClaim := { program := "ytnpcldgacdgplaa", sum := "6c357cdd8a790c5a03b617bfa4133f812016103037e24b0509382a61010837e5", func := "loop.example/g00049/laws.FnExactStackPlate", spec := "fnExactStackPlate", inPlace := ["math.sqrt", "math.archFloor", "math.Float64bits", "math.Float64frombits", "math.archTrunc"], unfollowed := true, recurses := true, apart := false }
def FnExactStackPlateSaid : Prop := fnExactStackPlateRow.holds Try.pinned (OpenSpec.ofChange fnExactStackPlateSpec)

/-- ITS FALSE NEIGHBOUR: 'it returns false'. Refute it at one input. -/
def fnExactStackPlateWrong : ChangeSpec := { name := "fnExactStackPlate", fn := fun _ => fun
  | [d1, d2] => { results := [.lit (.bool false)], args := [d1, d2] }
  | _ => none }
def FnExactStackPlateWrongFalsely : Prop := fnExactStackPlateRow.holds Try.pinned (OpenSpec.ofChange fnExactStackPlateWrong)

/-- 'laws.FnExactReflect': WHATEVER THE INPUT: true; the input reads as it did. -/
def fnExactReflectSpec : ChangeSpec := { name := "fnExactReflect", fn := fun _ => fun
  | [d1, d2] => { results := [.lit (.bool true)], args := [d1, d2] }
  | _ => none }
def fnExactReflectRow : OpenClaim := { program := "ytnpcldgacdgplaa", sum := "6c357cdd8a790c5a03b617bfa4133f812016103037e24b0509382a61010837e5", func := "loop.example/g00049/laws.FnExactReflect", spec := "fnExactReflect", inPlace := ["math.sqrt", "math.archFloor", "math.Float64bits", "math.Float64frombits", "math.archTrunc"], unfollowed := true, recurses := true, apart := false }
def FnExactReflectSaid : Prop := fnExactReflectRow.holds Try.pinned (OpenSpec.ofChange fnExactReflectSpec)

/-- ITS FALSE NEIGHBOUR: 'it returns false'. Refute it at one input. -/
def fnExactReflectWrong : ChangeSpec := { name := "fnExactReflect", fn := fun _ => fun
  | [d1, d2] => { results := [.lit (.bool false)], args := [d1, d2] }
  | _ => none }
def FnExactReflectWrongFalsely : Prop := fnExactReflectRow.holds Try.pinned (OpenSpec.ofChange fnExactReflectWrong)

/-- 'laws.FnExactTurnStack': WHATEVER THE INPUT: true; the input reads as it did. -/
def fnExactTurnStackSpec : ChangeSpec := { name := "fnExactTurnStack", fn := fun _ => fun
  | [d] => { results := [.lit (.bool true)], args := [d] }
  | _ => none }
def fnExactTurnStackRow : OpenClaim := { program := "ytnpcldgacdgplaa", sum := "6c357cdd8a790c5a03b617bfa4133f812016103037e24b0509382a61010837e5", func := "loop.example/g00049/laws.FnExactTurnStack", spec := "fnExactTurnStack", apart := false }
def FnExactTurnStackSaid : Prop := fnExactTurnStackRow.holds Try.pinned (OpenSpec.ofChange fnExactTurnStackSpec)

/-- ITS FALSE NEIGHBOUR: 'it returns false'. Refute it at one input. -/
def fnExactTurnStackWrong : ChangeSpec := { name := "fnExactTurnStack", fn := fun _ => fun
  | [d] => { results := [.lit (.bool false)], args := [d] }
  | _ => none }
def FnExactTurnStackWrongFalsely : Prop := fnExactTurnStackRow.holds Try.pinned (OpenSpec.ofChange fnExactTurnStackWrong)

/- THE SECOND FORM. 'bulk': how many values and letters a reading holds, each counted each time it is reached (what is shared counts as often as it is met; a slice's spare places count too). A statement '..UptoSaid' is the law's where the arguments, and the package variables that the reading takes, are together of bulk at most 1048576: NARROWER than '..Said'. Prove '..Said' where nothing that the law and all that it calls make is longer than what came in: it says more and counts as full. Else prove '..UptoSaid'. A law counts once. -/
mutual
def uptoBulk {H : Type} : DataW H → Nat
  | .lit (.string bytes) => bytes.length + 1
  | .lit _ => 1
  | .nil => 1
  | .ptr d => uptoBulk d + 1
  | .slice elems spare => uptoBulkAll elems + uptoBulkAll spare + 1
  | .agg parts => uptoBulkAll parts + 1
  | .iface _ d => uptoBulk d + 1
  | .map entries => uptoBulkEntries entries + 1
  | .held _ => 1
def uptoBulkAll {H : Type} : List (DataW H) → Nat
  | [] => 0
  | d :: r => uptoBulk d + uptoBulkAll r
def uptoBulkEntries {H : Type} : List (Lit × DataW H) → Nat
  | [] => 0
  | x :: r => uptoBulkEntry x + uptoBulkEntries r
def uptoBulkEntry {H : Type} : Lit × DataW H → Nat
  | (.string bytes, d) => bytes.length + uptoBulk d + 1
  | (_, d) => uptoBulk d + 1
 end
def uptoSmall : (H : Type) → List (DataW H) → Bool := fun _ ds => decide (uptoBulkAll ds ≤ 1048576)
def OpenSpec.upto (s : _root_.Go.ChangeSpec) : _root_.Go.OpenSpec := { _root_.Go.OpenSpec.ofChange s with cond := some uptoSmall }

/-- 'laws.FnExactStackFault', WHERE WHAT IT READS IS OF BULK AT MOST 1048576: true; the input reads as it did. -/
def fnExactStackFaultUptoRow : OpenClaim := { program := "ytnpcldgacdgplaa", sum := "6c357cdd8a790c5a03b617bfa4133f812016103037e24b0509382a61010837e5", func := "loop.example/g00049/laws.FnExactStackFault", spec := "fnExactStackFault", unfollowed := true, recurses := true, apart := false, narrowed := true }
def FnExactStackFaultUptoSaid : Prop := fnExactStackFaultUptoRow.holds Try.pinned (OpenSpec.upto fnExactStackFaultSpec)

/-- 'laws.FnExactLightFault', WHERE WHAT IT READS IS OF BULK AT MOST 1048576: true; the input reads as it did. -/
def fnExactLightFaultUptoRow : OpenClaim := { program := "ytnpcldgacdgplaa", sum := "6c357cdd8a790c5a03b617bfa4133f812016103037e24b0509382a61010837e5", func := "loop.example/g00049/laws.FnExactLightFault", spec := "fnExactLightFault", apart := false, narrowed := true }
def FnExactLightFaultUptoSaid : Prop := fnExactLightFaultUptoRow.holds Try.pinned (OpenSpec.upto fnExactLightFaultSpec)

/-- 'laws.FnExactFilmPlate', WHERE WHAT IT READS IS OF BULK AT MOST 1048576: true; the input reads as it did. -/
def fnExactFilmPlateUptoRow : OpenClaim := { program := "ytnpcldgacdgplaa", sum := "6c357cdd8a790c5a03b617bfa4133f812016103037e24b0509382a61010837e5", func := "loop.example/g00049/laws.FnExactFilmPlate", spec := "fnExactFilmPlate", inPlace := ["math.sqrt", "math.archFloor", "math.Float64bits", "math.Float64frombits", "math.archTrunc"], unfollowed := true, recurses := true, apart := false, narrowed := true }
def FnExactFilmPlateUptoSaid : Prop := fnExactFilmPlateUptoRow.holds Try.pinned (OpenSpec.upto fnExactFilmPlateSpec)

/-- 'laws.FnExactStackPlate', WHERE WHAT IT READS IS OF BULK AT MOST 1048576: true; the input reads as it did. -/
def fnExactStackPlateUptoRow : OpenClaim := { program := "ytnpcldgacdgplaa", sum := "6c357cdd8a790c5a03b617bfa4133f812016103037e24b0509382a61010837e5", func := "loop.example/g00049/laws.FnExactStackPlate", spec := "fnExactStackPlate", inPlace := ["math.sqrt", "math.archFloor", "math.Float64bits", "math.Float64frombits", "math.archTrunc"], unfollowed := true, recurses := true, apart := false, narrowed := true }
def FnExactStackPlateUptoSaid : Prop := fnExactStackPlateUptoRow.holds Try.pinned (OpenSpec.upto fnExactStackPlateSpec)

/-- 'laws.FnExactReflect', WHERE WHAT IT READS IS OF BULK AT MOST 1048576: true; the input reads as it did. -/
def fnExactReflectUptoRow : OpenClaim := { program := "ytnpcldgacdgplaa", sum := "6c357cdd8a790c5a03b617bfa4133f812016103037e24b0509382a61010837e5", func := "loop.example/g00049/laws.FnExactReflect", spec := "fnExactReflect", inPlace := ["math.sqrt", "math.archFloor", "math.Float64bits", "math.Float64frombits", "math.archTrunc"], unfollowed := true, recurses := true, apart := false, narrowed := true }
def FnExactReflectUptoSaid : Prop := fnExactReflectUptoRow.holds Try.pinned (OpenSpec.upto fnExactReflectSpec)

/-- 'laws.FnExactTurnStack', WHERE WHAT IT READS IS OF BULK AT MOST 1048576: true; the input reads as it did. -/
def fnExactTurnStackUptoRow : OpenClaim := { program := "ytnpcldgacdgplaa", sum := "6c357cdd8a790c5a03b617bfa4133f812016103037e24b0509382a61010837e5", func := "loop.example/g00049/laws.FnExactTurnStack", spec := "fnExactTurnStack", apart := false, narrowed := true }
def FnExactTurnStackUptoSaid : Prop := fnExactTurnStackUptoRow.holds Try.pinned (OpenSpec.upto fnExactTurnStackSpec)

end Rows
end Go.Proofs.Ytnpcldgacdgplaa
