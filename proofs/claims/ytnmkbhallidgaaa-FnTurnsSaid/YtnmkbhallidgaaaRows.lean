/-
  No cell of these rows narrows 'for every input' (looked for: loops, veiled, ifaces, maps, wideKeys, modest, calm, conditions, laid).
  DERIVED. THE GIVEN ROWS OF THIS SEAT. 14 by the template 'for every input the law returns true; each argument reads behind the call as it read before'; 0 by the template 'total and deterministic' (their statements: YtnmkbhallidgaaaTotals.lean).
  GIVEN WITH THE SEED: the statements are not yours to turn. If you find one false, say at which input.
  Laid BY PROGRAM, IN A SANDBOX (cutbox-rows.mjs): the forced cells as the released guide's own fill.sh prints them over the translation 903869b2040be3df… (all of the seat's roots in one cut). By AI agents, Wed Nov 11 2026. No macro, syntax, notation, axiom, sorry.
-/
import Derived.Test.YtnmkbhallidgaaaChecked
import GoSem.Claim
import GoSem.ClaimJoined
import GoSem.ClaimMapViews
import Derived.JoinedTies
import Derived.KernelRfl
namespace Go.Proofs.Ytnmkbhallidgaaa
/- THE CELL 'sum', in the pinned program and in every row, IS THE sha256 OF THE DUMP (.gsa) THAT YtnmkbhallidgaaaProg.lean LOADS. Nothing in Lean hashes anything: it is a label: what it is worth is what the hold of that sum in a sandbox is worth. -/
noncomputable def Try.pinned : Pinned := { name := "ytnmkbhallidgaaa", sum := "903869b2040be3df43b365166567fed75e2c6811aed722122aaaed836fa0ab86", checked := Try.checked }
namespace Rows
def none {H : Type} : Left H := { results := [], args := [] }

/-- 'laws.FnTurns': WHATEVER THE INPUT: true; the input reads as it did. -/
def fnTurnsSpec : ChangeSpec := { name := "fnTurns", fn := fun _ => fun
  | [d] => { results := [.lit (.bool true)], args := [d] }
  | _ => none }
def fnTurnsRow : OpenClaim := { program := "ytnmkbhallidgaaa", sum := "903869b2040be3df43b365166567fed75e2c6811aed722122aaaed836fa0ab86", func := "loop.example/g00049/laws.FnTurns", spec := "fnTurns", inPlace := ["math.sqrt"], apart := false }
def FnTurnsSaid : Prop := fnTurnsRow.holds Try.pinned (OpenSpec.ofChange fnTurnsSpec)

/-- ITS FALSE NEIGHBOUR: 'it returns false'. Refute it at one input. -/
def fnTurnsWrong : ChangeSpec := { name := "fnTurns", fn := fun _ => fun
  | [d] => { results := [.lit (.bool false)], args := [d] }
  | _ => none }
def FnTurnsWrongFalsely : Prop := fnTurnsRow.holds Try.pinned (OpenSpec.ofChange fnTurnsWrong)

/-- 'laws.FnExactSameZ': WHATEVER THE INPUT: true; the input reads as it did. -/
def fnExactSameZSpec : ChangeSpec := { name := "fnExactSameZ", fn := fun _ => fun
  | [d1, d2] => { results := [.lit (.bool true)], args := [d1, d2] }
  | _ => none }
def fnExactSameZRow : OpenClaim := { program := "ytnmkbhallidgaaa", sum := "903869b2040be3df43b365166567fed75e2c6811aed722122aaaed836fa0ab86", func := "loop.example/g00049/laws.FnExactSameZ", spec := "fnExactSameZ", apart := false }
def FnExactSameZSaid : Prop := fnExactSameZRow.holds Try.pinned (OpenSpec.ofChange fnExactSameZSpec)

/-- ITS FALSE NEIGHBOUR: 'it returns false'. Refute it at one input. -/
def fnExactSameZWrong : ChangeSpec := { name := "fnExactSameZ", fn := fun _ => fun
  | [d1, d2] => { results := [.lit (.bool false)], args := [d1, d2] }
  | _ => none }
def FnExactSameZWrongFalsely : Prop := fnExactSameZRow.holds Try.pinned (OpenSpec.ofChange fnExactSameZWrong)

/-- 'laws.FnExactMulZ': WHATEVER THE INPUT: true; the input reads as it did. -/
def fnExactMulZSpec : ChangeSpec := { name := "fnExactMulZ", fn := fun _ => fun
  | [d1, d2] => { results := [.lit (.bool true)], args := [d1, d2] }
  | _ => none }
def fnExactMulZRow : OpenClaim := { program := "ytnmkbhallidgaaa", sum := "903869b2040be3df43b365166567fed75e2c6811aed722122aaaed836fa0ab86", func := "loop.example/g00049/laws.FnExactMulZ", spec := "fnExactMulZ", apart := false }
def FnExactMulZSaid : Prop := fnExactMulZRow.holds Try.pinned (OpenSpec.ofChange fnExactMulZSpec)

/-- ITS FALSE NEIGHBOUR: 'it returns false'. Refute it at one input. -/
def fnExactMulZWrong : ChangeSpec := { name := "fnExactMulZ", fn := fun _ => fun
  | [d1, d2] => { results := [.lit (.bool false)], args := [d1, d2] }
  | _ => none }
def FnExactMulZWrongFalsely : Prop := fnExactMulZRow.holds Try.pinned (OpenSpec.ofChange fnExactMulZWrong)

/-- 'laws.FnExactDivZ': WHATEVER THE INPUT: true; the input reads as it did. -/
def fnExactDivZSpec : ChangeSpec := { name := "fnExactDivZ", fn := fun _ => fun
  | [d1, d2] => { results := [.lit (.bool true)], args := [d1, d2] }
  | _ => none }
def fnExactDivZRow : OpenClaim := { program := "ytnmkbhallidgaaa", sum := "903869b2040be3df43b365166567fed75e2c6811aed722122aaaed836fa0ab86", func := "loop.example/g00049/laws.FnExactDivZ", spec := "fnExactDivZ", inPlace := ["math.Float64frombits"], apart := false }
def FnExactDivZSaid : Prop := fnExactDivZRow.holds Try.pinned (OpenSpec.ofChange fnExactDivZSpec)

/-- ITS FALSE NEIGHBOUR: 'it returns false'. Refute it at one input. -/
def fnExactDivZWrong : ChangeSpec := { name := "fnExactDivZ", fn := fun _ => fun
  | [d1, d2] => { results := [.lit (.bool false)], args := [d1, d2] }
  | _ => none }
def FnExactDivZWrongFalsely : Prop := fnExactDivZRow.holds Try.pinned (OpenSpec.ofChange fnExactDivZWrong)

/-- 'laws.FnExactNormZ': WHATEVER THE INPUT: true; the input reads as it did. -/
def fnExactNormZSpec : ChangeSpec := { name := "fnExactNormZ", fn := fun _ => fun
  | [d] => { results := [.lit (.bool true)], args := [d] }
  | _ => none }
def fnExactNormZRow : OpenClaim := { program := "ytnmkbhallidgaaa", sum := "903869b2040be3df43b365166567fed75e2c6811aed722122aaaed836fa0ab86", func := "loop.example/g00049/laws.FnExactNormZ", spec := "fnExactNormZ", apart := false }
def FnExactNormZSaid : Prop := fnExactNormZRow.holds Try.pinned (OpenSpec.ofChange fnExactNormZSpec)

/-- ITS FALSE NEIGHBOUR: 'it returns false'. Refute it at one input. -/
def fnExactNormZWrong : ChangeSpec := { name := "fnExactNormZ", fn := fun _ => fun
  | [d] => { results := [.lit (.bool false)], args := [d] }
  | _ => none }
def FnExactNormZWrongFalsely : Prop := fnExactNormZRow.holds Try.pinned (OpenSpec.ofChange fnExactNormZWrong)

/-- 'laws.FnExactSumZ': WHATEVER THE INPUT: true; the input reads as it did. -/
def fnExactSumZSpec : ChangeSpec := { name := "fnExactSumZ", fn := fun _ => fun
  | [d] => { results := [.lit (.bool true)], args := [d] }
  | _ => none }
def fnExactSumZRow : OpenClaim := { program := "ytnmkbhallidgaaa", sum := "903869b2040be3df43b365166567fed75e2c6811aed722122aaaed836fa0ab86", func := "loop.example/g00049/laws.FnExactSumZ", spec := "fnExactSumZ", apart := false }
def FnExactSumZSaid : Prop := fnExactSumZRow.holds Try.pinned (OpenSpec.ofChange fnExactSumZSpec)

/-- ITS FALSE NEIGHBOUR: 'it returns false'. Refute it at one input. -/
def fnExactSumZWrong : ChangeSpec := { name := "fnExactSumZ", fn := fun _ => fun
  | [d] => { results := [.lit (.bool false)], args := [d] }
  | _ => none }
def FnExactSumZWrongFalsely : Prop := fnExactSumZRow.holds Try.pinned (OpenSpec.ofChange fnExactSumZWrong)

/-- 'laws.FnExactPolyZ': WHATEVER THE INPUT: true; the input reads as it did. -/
def fnExactPolyZSpec : ChangeSpec := { name := "fnExactPolyZ", fn := fun _ => fun
  | [d1, d2] => { results := [.lit (.bool true)], args := [d1, d2] }
  | _ => none }
def fnExactPolyZRow : OpenClaim := { program := "ytnmkbhallidgaaa", sum := "903869b2040be3df43b365166567fed75e2c6811aed722122aaaed836fa0ab86", func := "loop.example/g00049/laws.FnExactPolyZ", spec := "fnExactPolyZ", apart := false }
def FnExactPolyZSaid : Prop := fnExactPolyZRow.holds Try.pinned (OpenSpec.ofChange fnExactPolyZSpec)

/-- ITS FALSE NEIGHBOUR: 'it returns false'. Refute it at one input. -/
def fnExactPolyZWrong : ChangeSpec := { name := "fnExactPolyZ", fn := fun _ => fun
  | [d1, d2] => { results := [.lit (.bool false)], args := [d1, d2] }
  | _ => none }
def FnExactPolyZWrongFalsely : Prop := fnExactPolyZRow.holds Try.pinned (OpenSpec.ofChange fnExactPolyZWrong)

/-- 'laws.FnExactPowZ': WHATEVER THE INPUT: true; the input reads as it did. -/
def fnExactPowZSpec : ChangeSpec := { name := "fnExactPowZ", fn := fun _ => fun
  | [d1, d2] => { results := [.lit (.bool true)], args := [d1, d2] }
  | _ => none }
def fnExactPowZRow : OpenClaim := { program := "ytnmkbhallidgaaa", sum := "903869b2040be3df43b365166567fed75e2c6811aed722122aaaed836fa0ab86", func := "loop.example/g00049/laws.FnExactPowZ", spec := "fnExactPowZ", apart := false }
def FnExactPowZSaid : Prop := fnExactPowZRow.holds Try.pinned (OpenSpec.ofChange fnExactPowZSpec)

/-- ITS FALSE NEIGHBOUR: 'it returns false'. Refute it at one input. -/
def fnExactPowZWrong : ChangeSpec := { name := "fnExactPowZ", fn := fun _ => fun
  | [d1, d2] => { results := [.lit (.bool false)], args := [d1, d2] }
  | _ => none }
def FnExactPowZWrongFalsely : Prop := fnExactPowZRow.holds Try.pinned (OpenSpec.ofChange fnExactPowZWrong)

/-- 'laws.FnExactSqrtZ': WHATEVER THE INPUT: true; the input reads as it did. -/
def fnExactSqrtZSpec : ChangeSpec := { name := "fnExactSqrtZ", fn := fun _ => fun
  | [d] => { results := [.lit (.bool true)], args := [d] }
  | _ => none }
def fnExactSqrtZRow : OpenClaim := { program := "ytnmkbhallidgaaa", sum := "903869b2040be3df43b365166567fed75e2c6811aed722122aaaed836fa0ab86", func := "loop.example/g00049/laws.FnExactSqrtZ", spec := "fnExactSqrtZ", inPlace := ["math.sqrt", "math.Float64bits", "math.Float64frombits"], apart := false }
def FnExactSqrtZSaid : Prop := fnExactSqrtZRow.holds Try.pinned (OpenSpec.ofChange fnExactSqrtZSpec)

/-- ITS FALSE NEIGHBOUR: 'it returns false'. Refute it at one input. -/
def fnExactSqrtZWrong : ChangeSpec := { name := "fnExactSqrtZ", fn := fun _ => fun
  | [d] => { results := [.lit (.bool false)], args := [d] }
  | _ => none }
def FnExactSqrtZWrongFalsely : Prop := fnExactSqrtZRow.holds Try.pinned (OpenSpec.ofChange fnExactSqrtZWrong)

/-- 'laws.FnExactTurnZ': WHATEVER THE INPUT: true; the input reads as it did. -/
def fnExactTurnZSpec : ChangeSpec := { name := "fnExactTurnZ", fn := fun _ => fun
  | [d] => { results := [.lit (.bool true)], args := [d] }
  | _ => none }
def fnExactTurnZRow : OpenClaim := { program := "ytnmkbhallidgaaa", sum := "903869b2040be3df43b365166567fed75e2c6811aed722122aaaed836fa0ab86", func := "loop.example/g00049/laws.FnExactTurnZ", spec := "fnExactTurnZ", inPlace := ["math.sqrt"], apart := false }
def FnExactTurnZSaid : Prop := fnExactTurnZRow.holds Try.pinned (OpenSpec.ofChange fnExactTurnZSpec)

/-- ITS FALSE NEIGHBOUR: 'it returns false'. Refute it at one input. -/
def fnExactTurnZWrong : ChangeSpec := { name := "fnExactTurnZ", fn := fun _ => fun
  | [d] => { results := [.lit (.bool false)], args := [d] }
  | _ => none }
def FnExactTurnZWrongFalsely : Prop := fnExactTurnZRow.holds Try.pinned (OpenSpec.ofChange fnExactTurnZWrong)

/-- 'laws.FnExactMulPlate': WHATEVER THE INPUT: true; the input reads as it did. -/
def fnExactMulPlateSpec : ChangeSpec := { name := "fnExactMulPlate", fn := fun _ => fun
  | [d1, d2] => { results := [.lit (.bool true)], args := [d1, d2] }
  | _ => none }
def fnExactMulPlateRow : OpenClaim := { program := "ytnmkbhallidgaaa", sum := "903869b2040be3df43b365166567fed75e2c6811aed722122aaaed836fa0ab86", func := "loop.example/g00049/laws.FnExactMulPlate", spec := "fnExactMulPlate", apart := false }
def FnExactMulPlateSaid : Prop := fnExactMulPlateRow.holds Try.pinned (OpenSpec.ofChange fnExactMulPlateSpec)

/-- ITS FALSE NEIGHBOUR: 'it returns false'. Refute it at one input. -/
def fnExactMulPlateWrong : ChangeSpec := { name := "fnExactMulPlate", fn := fun _ => fun
  | [d1, d2] => { results := [.lit (.bool false)], args := [d1, d2] }
  | _ => none }
def FnExactMulPlateWrongFalsely : Prop := fnExactMulPlateRow.holds Try.pinned (OpenSpec.ofChange fnExactMulPlateWrong)

/-- 'laws.FnExactDetPlate': WHATEVER THE INPUT: true; the input reads as it did. -/
def fnExactDetPlateSpec : ChangeSpec := { name := "fnExactDetPlate", fn := fun _ => fun
  | [d] => { results := [.lit (.bool true)], args := [d] }
  | _ => none }
def fnExactDetPlateRow : OpenClaim := { program := "ytnmkbhallidgaaa", sum := "903869b2040be3df43b365166567fed75e2c6811aed722122aaaed836fa0ab86", func := "loop.example/g00049/laws.FnExactDetPlate", spec := "fnExactDetPlate", apart := false }
def FnExactDetPlateSaid : Prop := fnExactDetPlateRow.holds Try.pinned (OpenSpec.ofChange fnExactDetPlateSpec)

/-- ITS FALSE NEIGHBOUR: 'it returns false'. Refute it at one input. -/
def fnExactDetPlateWrong : ChangeSpec := { name := "fnExactDetPlate", fn := fun _ => fun
  | [d] => { results := [.lit (.bool false)], args := [d] }
  | _ => none }
def FnExactDetPlateWrongFalsely : Prop := fnExactDetPlateRow.holds Try.pinned (OpenSpec.ofChange fnExactDetPlateWrong)

/-- 'laws.FnExactInvPlate': WHATEVER THE INPUT: true; the input reads as it did. -/
def fnExactInvPlateSpec : ChangeSpec := { name := "fnExactInvPlate", fn := fun _ => fun
  | [d] => { results := [.lit (.bool true)], args := [d] }
  | _ => none }
def fnExactInvPlateRow : OpenClaim := { program := "ytnmkbhallidgaaa", sum := "903869b2040be3df43b365166567fed75e2c6811aed722122aaaed836fa0ab86", func := "loop.example/g00049/laws.FnExactInvPlate", spec := "fnExactInvPlate", inPlace := ["math.Float64frombits"], apart := false }
def FnExactInvPlateSaid : Prop := fnExactInvPlateRow.holds Try.pinned (OpenSpec.ofChange fnExactInvPlateSpec)

/-- ITS FALSE NEIGHBOUR: 'it returns false'. Refute it at one input. -/
def fnExactInvPlateWrong : ChangeSpec := { name := "fnExactInvPlate", fn := fun _ => fun
  | [d] => { results := [.lit (.bool false)], args := [d] }
  | _ => none }
def FnExactInvPlateWrongFalsely : Prop := fnExactInvPlateRow.holds Try.pinned (OpenSpec.ofChange fnExactInvPlateWrong)

/-- 'laws.FnExactChainPlates': WHATEVER THE INPUT: true; the input reads as it did. -/
def fnExactChainPlatesSpec : ChangeSpec := { name := "fnExactChainPlates", fn := fun _ => fun
  | [d] => { results := [.lit (.bool true)], args := [d] }
  | _ => none }
def fnExactChainPlatesRow : OpenClaim := { program := "ytnmkbhallidgaaa", sum := "903869b2040be3df43b365166567fed75e2c6811aed722122aaaed836fa0ab86", func := "loop.example/g00049/laws.FnExactChainPlates", spec := "fnExactChainPlates", apart := false }
def FnExactChainPlatesSaid : Prop := fnExactChainPlatesRow.holds Try.pinned (OpenSpec.ofChange fnExactChainPlatesSpec)

/-- ITS FALSE NEIGHBOUR: 'it returns false'. Refute it at one input. -/
def fnExactChainPlatesWrong : ChangeSpec := { name := "fnExactChainPlates", fn := fun _ => fun
  | [d] => { results := [.lit (.bool false)], args := [d] }
  | _ => none }
def FnExactChainPlatesWrongFalsely : Prop := fnExactChainPlatesRow.holds Try.pinned (OpenSpec.ofChange fnExactChainPlatesWrong)

/- THE SECOND FORM. 'bulk': how many values and letters a reading holds, each counted each time it is reached (what is shared counts as often as it is met; a slice's spare places count too). A statement '..UptoSaid' is the law's where the arguments, and the package variables that the reading takes, are together of bulk at most 1048576: NARROWER than '..Said'. Prove '..Said' where nothing that the law and all that it calls make is longer than what came in: it says more and counts as full. Else prove '..UptoSaid'. A law counts once. -/
mutual
def uptoBulk {H : Type} : DataW H → Nat
  | .lit (.string bytes) => bytes.length + 1
  | .lit _ => 1
  | .nil => 1
  | .ptr d => uptoBulk d + 1
  | .slice elems spare => uptoBulkAll elems + uptoBulkAll spare + 1
  | .agg parts => uptoBulkAll parts + 1
  | .iface _ d => uptoBulk d + 1
  | .map entries => uptoBulkEntries entries + 1
  | .held _ => 1
def uptoBulkAll {H : Type} : List (DataW H) → Nat
  | [] => 0
  | d :: r => uptoBulk d + uptoBulkAll r
def uptoBulkEntries {H : Type} : List (Lit × DataW H) → Nat
  | [] => 0
  | x :: r => uptoBulkEntry x + uptoBulkEntries r
def uptoBulkEntry {H : Type} : Lit × DataW H → Nat
  | (.string bytes, d) => bytes.length + uptoBulk d + 1
  | (_, d) => uptoBulk d + 1
 end
def uptoSmall : (H : Type) → List (DataW H) → Bool := fun _ ds => decide (uptoBulkAll ds ≤ 1048576)
def OpenSpec.upto (s : _root_.Go.ChangeSpec) : _root_.Go.OpenSpec := { _root_.Go.OpenSpec.ofChange s with cond := some uptoSmall }

/-- 'laws.FnTurns', WHERE WHAT IT READS IS OF BULK AT MOST 1048576: true; the input reads as it did. -/
def fnTurnsUptoRow : OpenClaim := { program := "ytnmkbhallidgaaa", sum := "903869b2040be3df43b365166567fed75e2c6811aed722122aaaed836fa0ab86", func := "loop.example/g00049/laws.FnTurns", spec := "fnTurns", inPlace := ["math.sqrt"], apart := false, narrowed := true }
def FnTurnsUptoSaid : Prop := fnTurnsUptoRow.holds Try.pinned (OpenSpec.upto fnTurnsSpec)

/-- 'laws.FnExactSameZ', WHERE WHAT IT READS IS OF BULK AT MOST 1048576: true; the input reads as it did. -/
def fnExactSameZUptoRow : OpenClaim := { program := "ytnmkbhallidgaaa", sum := "903869b2040be3df43b365166567fed75e2c6811aed722122aaaed836fa0ab86", func := "loop.example/g00049/laws.FnExactSameZ", spec := "fnExactSameZ", apart := false, narrowed := true }
def FnExactSameZUptoSaid : Prop := fnExactSameZUptoRow.holds Try.pinned (OpenSpec.upto fnExactSameZSpec)

/-- 'laws.FnExactMulZ', WHERE WHAT IT READS IS OF BULK AT MOST 1048576: true; the input reads as it did. -/
def fnExactMulZUptoRow : OpenClaim := { program := "ytnmkbhallidgaaa", sum := "903869b2040be3df43b365166567fed75e2c6811aed722122aaaed836fa0ab86", func := "loop.example/g00049/laws.FnExactMulZ", spec := "fnExactMulZ", apart := false, narrowed := true }
def FnExactMulZUptoSaid : Prop := fnExactMulZUptoRow.holds Try.pinned (OpenSpec.upto fnExactMulZSpec)

/-- 'laws.FnExactDivZ', WHERE WHAT IT READS IS OF BULK AT MOST 1048576: true; the input reads as it did. -/
def fnExactDivZUptoRow : OpenClaim := { program := "ytnmkbhallidgaaa", sum := "903869b2040be3df43b365166567fed75e2c6811aed722122aaaed836fa0ab86", func := "loop.example/g00049/laws.FnExactDivZ", spec := "fnExactDivZ", inPlace := ["math.Float64frombits"], apart := false, narrowed := true }
def FnExactDivZUptoSaid : Prop := fnExactDivZUptoRow.holds Try.pinned (OpenSpec.upto fnExactDivZSpec)

/-- 'laws.FnExactNormZ', WHERE WHAT IT READS IS OF BULK AT MOST 1048576: true; the input reads as it did. -/
def fnExactNormZUptoRow : OpenClaim := { program := "ytnmkbhallidgaaa", sum := "903869b2040be3df43b365166567fed75e2c6811aed722122aaaed836fa0ab86", func := "loop.example/g00049/laws.FnExactNormZ", spec := "fnExactNormZ", apart := false, narrowed := true }
def FnExactNormZUptoSaid : Prop := fnExactNormZUptoRow.holds Try.pinned (OpenSpec.upto fnExactNormZSpec)

/-- 'laws.FnExactSumZ', WHERE WHAT IT READS IS OF BULK AT MOST 1048576: true; the input reads as it did. -/
def fnExactSumZUptoRow : OpenClaim := { program := "ytnmkbhallidgaaa", sum := "903869b2040be3df43b365166567fed75e2c6811aed722122aaaed836fa0ab86", func := "loop.example/g00049/laws.FnExactSumZ", spec := "fnExactSumZ", apart := false, narrowed := true }
def FnExactSumZUptoSaid : Prop := fnExactSumZUptoRow.holds Try.pinned (OpenSpec.upto fnExactSumZSpec)

/-- 'laws.FnExactPolyZ', WHERE WHAT IT READS IS OF BULK AT MOST 1048576: true; the input reads as it did. -/
def fnExactPolyZUptoRow : OpenClaim := { program := "ytnmkbhallidgaaa", sum := "903869b2040be3df43b365166567fed75e2c6811aed722122aaaed836fa0ab86", func := "loop.example/g00049/laws.FnExactPolyZ", spec := "fnExactPolyZ", apart := false, narrowed := true }
def FnExactPolyZUptoSaid : Prop := fnExactPolyZUptoRow.holds Try.pinned (OpenSpec.upto fnExactPolyZSpec)

/-- 'laws.FnExactPowZ', WHERE WHAT IT READS IS OF BULK AT MOST 1048576: true; the input reads as it did. -/
def fnExactPowZUptoRow : OpenClaim := { program := "ytnmkbhallidgaaa", sum := "903869b2040be3df43b365166567fed75e2c6811aed722122aaaed836fa0ab86", func := "loop.example/g00049/laws.FnExactPowZ", spec := "fnExactPowZ", apart := false, narrowed := true }
def FnExactPowZUptoSaid : Prop := fnExactPowZUptoRow.holds Try.pinned (OpenSpec.upto fnExactPowZSpec)

/-- 'laws.FnExactSqrtZ', WHERE WHAT IT READS IS OF BULK AT MOST 1048576: true; the input reads as it did. -/
def fnExactSqrtZUptoRow : OpenClaim := { program := "ytnmkbhallidgaaa", sum := "903869b2040be3df43b365166567fed75e2c6811aed722122aaaed836fa0ab86", func := "loop.example/g00049/laws.FnExactSqrtZ", spec := "fnExactSqrtZ", inPlace := ["math.sqrt", "math.Float64bits", "math.Float64frombits"], apart := false, narrowed := true }
def FnExactSqrtZUptoSaid : Prop := fnExactSqrtZUptoRow.holds Try.pinned (OpenSpec.upto fnExactSqrtZSpec)

/-- 'laws.FnExactTurnZ', WHERE WHAT IT READS IS OF BULK AT MOST 1048576: true; the input reads as it did. -/
def fnExactTurnZUptoRow : OpenClaim := { program := "ytnmkbhallidgaaa", sum := "903869b2040be3df43b365166567fed75e2c6811aed722122aaaed836fa0ab86", func := "loop.example/g00049/laws.FnExactTurnZ", spec := "fnExactTurnZ", inPlace := ["math.sqrt"], apart := false, narrowed := true }
def FnExactTurnZUptoSaid : Prop := fnExactTurnZUptoRow.holds Try.pinned (OpenSpec.upto fnExactTurnZSpec)

/-- 'laws.FnExactMulPlate', WHERE WHAT IT READS IS OF BULK AT MOST 1048576: true; the input reads as it did. -/
def fnExactMulPlateUptoRow : OpenClaim := { program := "ytnmkbhallidgaaa", sum := "903869b2040be3df43b365166567fed75e2c6811aed722122aaaed836fa0ab86", func := "loop.example/g00049/laws.FnExactMulPlate", spec := "fnExactMulPlate", apart := false, narrowed := true }
def FnExactMulPlateUptoSaid : Prop := fnExactMulPlateUptoRow.holds Try.pinned (OpenSpec.upto fnExactMulPlateSpec)

/-- 'laws.FnExactDetPlate', WHERE WHAT IT READS IS OF BULK AT MOST 1048576: true; the input reads as it did. -/
def fnExactDetPlateUptoRow : OpenClaim := { program := "ytnmkbhallidgaaa", sum := "903869b2040be3df43b365166567fed75e2c6811aed722122aaaed836fa0ab86", func := "loop.example/g00049/laws.FnExactDetPlate", spec := "fnExactDetPlate", apart := false, narrowed := true }
def FnExactDetPlateUptoSaid : Prop := fnExactDetPlateUptoRow.holds Try.pinned (OpenSpec.upto fnExactDetPlateSpec)

/-- 'laws.FnExactInvPlate', WHERE WHAT IT READS IS OF BULK AT MOST 1048576: true; the input reads as it did. -/
def fnExactInvPlateUptoRow : OpenClaim := { program := "ytnmkbhallidgaaa", sum := "903869b2040be3df43b365166567fed75e2c6811aed722122aaaed836fa0ab86", func := "loop.example/g00049/laws.FnExactInvPlate", spec := "fnExactInvPlate", inPlace := ["math.Float64frombits"], apart := false, narrowed := true }
def FnExactInvPlateUptoSaid : Prop := fnExactInvPlateUptoRow.holds Try.pinned (OpenSpec.upto fnExactInvPlateSpec)

/-- 'laws.FnExactChainPlates', WHERE WHAT IT READS IS OF BULK AT MOST 1048576: true; the input reads as it did. -/
def fnExactChainPlatesUptoRow : OpenClaim := { program := "ytnmkbhallidgaaa", sum := "903869b2040be3df43b365166567fed75e2c6811aed722122aaaed836fa0ab86", func := "loop.example/g00049/laws.FnExactChainPlates", spec := "fnExactChainPlates", apart := false, narrowed := true }
def FnExactChainPlatesUptoSaid : Prop := fnExactChainPlatesUptoRow.holds Try.pinned (OpenSpec.upto fnExactChainPlatesSpec)

end Rows
end Go.Proofs.Ytnmkbhallidgaaa
