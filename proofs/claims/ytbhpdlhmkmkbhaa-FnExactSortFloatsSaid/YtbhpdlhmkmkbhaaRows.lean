/-
  No cell of these rows narrows 'for every input' (looked for: loops, veiled, ifaces, maps, wideKeys, modest, calm, conditions, laid).
  DERIVED. THE GIVEN ROWS OF THIS SEAT. 12 by the template 'for every input the law returns true; each argument reads behind the call as it read before'; 0 by the template 'total and deterministic' (their statements: YtbhpdlhmkmkbhaaTotals.lean).
  GIVEN WITH THE SEED: the statements are not yours to turn. If you find one false, say at which input.
  Laid BY PROGRAM, IN A SANDBOX (cutbox-rows.mjs): the forced cells as the released guide's own fill.sh prints them over the translation 9c0274856c624f7d… (all of the seat's roots in one cut). By AI agents, Wed Nov 11 2026. No macro, syntax, notation, axiom, sorry.
-/
import Derived.Test.YtbhpdlhmkmkbhaaChecked
import GoSem.Claim
import GoSem.ClaimJoined
import GoSem.ClaimMapViews
import Derived.JoinedTies
import Derived.KernelRfl
namespace Go.Proofs.Ytbhpdlhmkmkbhaa
/- THE CELL 'sum', in the pinned program and in every row, IS THE sha256 OF THE DUMP (.gsa) THAT YtbhpdlhmkmkbhaaProg.lean LOADS. Nothing in Lean hashes anything: it is a label: what it is worth is what the hold of that sum in a sandbox is worth. -/
noncomputable def Try.pinned : Pinned := { name := "ytbhpdlhmkmkbhaa", sum := "9c0274856c624f7def93c09b7c974f8f5352f9d9de1aabfe41d653cdbc501729", checked := Try.checked }
namespace Rows
def none {H : Type} : Left H := { results := [], args := [] }

/-- 'laws.FnFloats': WHATEVER THE INPUT: true; the input reads as it did. -/
def fnFloatsSpec : ChangeSpec := { name := "fnFloats", fn := fun _ => fun
  | [d] => { results := [.lit (.bool true)], args := [d] }
  | _ => none }
def fnFloatsRow : OpenClaim := { program := "ytbhpdlhmkmkbhaa", sum := "9c0274856c624f7def93c09b7c974f8f5352f9d9de1aabfe41d653cdbc501729", func := "loop.example/g00049/laws.FnFloats", spec := "fnFloats", inPlace := ["math.Float64bits", "math.Float64frombits"], unfollowed := true, recurses := true, apart := false }
def FnFloatsSaid : Prop := fnFloatsRow.holds Try.pinned (OpenSpec.ofChange fnFloatsSpec)

/-- ITS FALSE NEIGHBOUR: 'it returns false'. Refute it at one input. -/
def fnFloatsWrong : ChangeSpec := { name := "fnFloats", fn := fun _ => fun
  | [d] => { results := [.lit (.bool false)], args := [d] }
  | _ => none }
def FnFloatsWrongFalsely : Prop := fnFloatsRow.holds Try.pinned (OpenSpec.ofChange fnFloatsWrong)

/-- 'laws.FnRoots': WHATEVER THE INPUT: true; the input reads as it did. -/
def fnRootsSpec : ChangeSpec := { name := "fnRoots", fn := fun _ => fun
  | [d] => { results := [.lit (.bool true)], args := [d] }
  | _ => none }
def fnRootsRow : OpenClaim := { program := "ytbhpdlhmkmkbhaa", sum := "9c0274856c624f7def93c09b7c974f8f5352f9d9de1aabfe41d653cdbc501729", func := "loop.example/g00049/laws.FnRoots", spec := "fnRoots", inPlace := ["math.sqrt", "math.Float64bits", "math.Float64frombits"], apart := false }
def FnRootsSaid : Prop := fnRootsRow.holds Try.pinned (OpenSpec.ofChange fnRootsSpec)

/-- ITS FALSE NEIGHBOUR: 'it returns false'. Refute it at one input. -/
def fnRootsWrong : ChangeSpec := { name := "fnRoots", fn := fun _ => fun
  | [d] => { results := [.lit (.bool false)], args := [d] }
  | _ => none }
def FnRootsWrongFalsely : Prop := fnRootsRow.holds Try.pinned (OpenSpec.ofChange fnRootsWrong)

/-- 'laws.FnExactFloatBits': WHATEVER THE INPUT: true; the input reads as it did. -/
def fnExactFloatBitsSpec : ChangeSpec := { name := "fnExactFloatBits", fn := fun _ => fun
  | [d] => { results := [.lit (.bool true)], args := [d] }
  | _ => none }
def fnExactFloatBitsRow : OpenClaim := { program := "ytbhpdlhmkmkbhaa", sum := "9c0274856c624f7def93c09b7c974f8f5352f9d9de1aabfe41d653cdbc501729", func := "loop.example/g00049/laws.FnExactFloatBits", spec := "fnExactFloatBits", inPlace := ["math.Float64bits"], apart := false }
def FnExactFloatBitsSaid : Prop := fnExactFloatBitsRow.holds Try.pinned (OpenSpec.ofChange fnExactFloatBitsSpec)

/-- ITS FALSE NEIGHBOUR: 'it returns false'. Refute it at one input. -/
def fnExactFloatBitsWrong : ChangeSpec := { name := "fnExactFloatBits", fn := fun _ => fun
  | [d] => { results := [.lit (.bool false)], args := [d] }
  | _ => none }
def FnExactFloatBitsWrongFalsely : Prop := fnExactFloatBitsRow.holds Try.pinned (OpenSpec.ofChange fnExactFloatBitsWrong)

/-- 'laws.FnExactFloatOf': WHATEVER THE INPUT: true; the input reads as it did. -/
def fnExactFloatOfSpec : ChangeSpec := { name := "fnExactFloatOf", fn := fun _ => fun
  | [d] => { results := [.lit (.bool true)], args := [d] }
  | _ => none }
def fnExactFloatOfRow : OpenClaim := { program := "ytbhpdlhmkmkbhaa", sum := "9c0274856c624f7def93c09b7c974f8f5352f9d9de1aabfe41d653cdbc501729", func := "loop.example/g00049/laws.FnExactFloatOf", spec := "fnExactFloatOf", inPlace := ["math.Float64frombits"], apart := false }
def FnExactFloatOfSaid : Prop := fnExactFloatOfRow.holds Try.pinned (OpenSpec.ofChange fnExactFloatOfSpec)

/-- ITS FALSE NEIGHBOUR: 'it returns false'. Refute it at one input. -/
def fnExactFloatOfWrong : ChangeSpec := { name := "fnExactFloatOf", fn := fun _ => fun
  | [d] => { results := [.lit (.bool false)], args := [d] }
  | _ => none }
def FnExactFloatOfWrongFalsely : Prop := fnExactFloatOfRow.holds Try.pinned (OpenSpec.ofChange fnExactFloatOfWrong)

/-- 'laws.FnExactNarrow': WHATEVER THE INPUT: true; the input reads as it did. -/
def fnExactNarrowSpec : ChangeSpec := { name := "fnExactNarrow", fn := fun _ => fun
  | [d] => { results := [.lit (.bool true)], args := [d] }
  | _ => none }
def fnExactNarrowRow : OpenClaim := { program := "ytbhpdlhmkmkbhaa", sum := "9c0274856c624f7def93c09b7c974f8f5352f9d9de1aabfe41d653cdbc501729", func := "loop.example/g00049/laws.FnExactNarrow", spec := "fnExactNarrow", apart := false }
def FnExactNarrowSaid : Prop := fnExactNarrowRow.holds Try.pinned (OpenSpec.ofChange fnExactNarrowSpec)

/-- ITS FALSE NEIGHBOUR: 'it returns false'. Refute it at one input. -/
def fnExactNarrowWrong : ChangeSpec := { name := "fnExactNarrow", fn := fun _ => fun
  | [d] => { results := [.lit (.bool false)], args := [d] }
  | _ => none }
def FnExactNarrowWrongFalsely : Prop := fnExactNarrowRow.holds Try.pinned (OpenSpec.ofChange fnExactNarrowWrong)

/-- 'laws.FnExactSqrtFloat': WHATEVER THE INPUT: true; the input reads as it did. -/
def fnExactSqrtFloatSpec : ChangeSpec := { name := "fnExactSqrtFloat", fn := fun _ => fun
  | [d] => { results := [.lit (.bool true)], args := [d] }
  | _ => none }
def fnExactSqrtFloatRow : OpenClaim := { program := "ytbhpdlhmkmkbhaa", sum := "9c0274856c624f7def93c09b7c974f8f5352f9d9de1aabfe41d653cdbc501729", func := "loop.example/g00049/laws.FnExactSqrtFloat", spec := "fnExactSqrtFloat", inPlace := ["math.sqrt"], apart := false }
def FnExactSqrtFloatSaid : Prop := fnExactSqrtFloatRow.holds Try.pinned (OpenSpec.ofChange fnExactSqrtFloatSpec)

/-- ITS FALSE NEIGHBOUR: 'it returns false'. Refute it at one input. -/
def fnExactSqrtFloatWrong : ChangeSpec := { name := "fnExactSqrtFloat", fn := fun _ => fun
  | [d] => { results := [.lit (.bool false)], args := [d] }
  | _ => none }
def FnExactSqrtFloatWrongFalsely : Prop := fnExactSqrtFloatRow.holds Try.pinned (OpenSpec.ofChange fnExactSqrtFloatWrong)

/-- 'laws.FnExactNextFloat': WHATEVER THE INPUT: true; the input reads as it did. -/
def fnExactNextFloatSpec : ChangeSpec := { name := "fnExactNextFloat", fn := fun _ => fun
  | [d] => { results := [.lit (.bool true)], args := [d] }
  | _ => none }
def fnExactNextFloatRow : OpenClaim := { program := "ytbhpdlhmkmkbhaa", sum := "9c0274856c624f7def93c09b7c974f8f5352f9d9de1aabfe41d653cdbc501729", func := "loop.example/g00049/laws.FnExactNextFloat", spec := "fnExactNextFloat", inPlace := ["math.Float64bits", "math.Float64frombits"], apart := false }
def FnExactNextFloatSaid : Prop := fnExactNextFloatRow.holds Try.pinned (OpenSpec.ofChange fnExactNextFloatSpec)

/-- ITS FALSE NEIGHBOUR: 'it returns false'. Refute it at one input. -/
def fnExactNextFloatWrong : ChangeSpec := { name := "fnExactNextFloat", fn := fun _ => fun
  | [d] => { results := [.lit (.bool false)], args := [d] }
  | _ => none }
def FnExactNextFloatWrongFalsely : Prop := fnExactNextFloatRow.holds Try.pinned (OpenSpec.ofChange fnExactNextFloatWrong)

/-- 'laws.FnExactCompareFloats': WHATEVER THE INPUT: true; the input reads as it did. -/
def fnExactCompareFloatsSpec : ChangeSpec := { name := "fnExactCompareFloats", fn := fun _ => fun
  | [d1, d2] => { results := [.lit (.bool true)], args := [d1, d2] }
  | _ => none }
def fnExactCompareFloatsRow : OpenClaim := { program := "ytbhpdlhmkmkbhaa", sum := "9c0274856c624f7def93c09b7c974f8f5352f9d9de1aabfe41d653cdbc501729", func := "loop.example/g00049/laws.FnExactCompareFloats", spec := "fnExactCompareFloats", inPlace := ["math.Float64bits"], apart := false }
def FnExactCompareFloatsSaid : Prop := fnExactCompareFloatsRow.holds Try.pinned (OpenSpec.ofChange fnExactCompareFloatsSpec)

/-- ITS FALSE NEIGHBOUR: 'it returns false'. Refute it at one input. -/
def fnExactCompareFloatsWrong : ChangeSpec := { name := "fnExactCompareFloats", fn := fun _ => fun
  | [d1, d2] => { results := [.lit (.bool false)], args := [d1, d2] }
  | _ => none }
def FnExactCompareFloatsWrongFalsely : Prop := fnExactCompareFloatsRow.holds Try.pinned (OpenSpec.ofChange fnExactCompareFloatsWrong)

/-- 'laws.FnExactSortFloats': WHATEVER THE INPUT: true; the input reads as it did. -/
def fnExactSortFloatsSpec : ChangeSpec := { name := "fnExactSortFloats", fn := fun _ => fun
  | [d] => { results := [.lit (.bool true)], args := [d] }
  | _ => none }
def fnExactSortFloatsRow : OpenClaim := { program := "ytbhpdlhmkmkbhaa", sum := "9c0274856c624f7def93c09b7c974f8f5352f9d9de1aabfe41d653cdbc501729", func := "loop.example/g00049/laws.FnExactSortFloats", spec := "fnExactSortFloats", inPlace := ["math.Float64bits"], unfollowed := true, recurses := true, apart := false }
def FnExactSortFloatsSaid : Prop := fnExactSortFloatsRow.holds Try.pinned (OpenSpec.ofChange fnExactSortFloatsSpec)

/-- ITS FALSE NEIGHBOUR: 'it returns false'. Refute it at one input. -/
def fnExactSortFloatsWrong : ChangeSpec := { name := "fnExactSortFloats", fn := fun _ => fun
  | [d] => { results := [.lit (.bool false)], args := [d] }
  | _ => none }
def FnExactSortFloatsWrongFalsely : Prop := fnExactSortFloatsRow.holds Try.pinned (OpenSpec.ofChange fnExactSortFloatsWrong)

/-- 'laws.FnExactSumFloats': WHATEVER THE INPUT: true; the input reads as it did. -/
def fnExactSumFloatsSpec : ChangeSpec := { name := "fnExactSumFloats", fn := fun _ => fun
  | [d] => { results := [.lit (.bool true)], args := [d] }
  | _ => none }
def fnExactSumFloatsRow : OpenClaim := { program := "ytbhpdlhmkmkbhaa", sum := "9c0274856c624f7def93c09b7c974f8f5352f9d9de1aabfe41d653cdbc501729", func := "loop.example/g00049/laws.FnExactSumFloats", spec := "fnExactSumFloats", apart := false }
def FnExactSumFloatsSaid : Prop := fnExactSumFloatsRow.holds Try.pinned (OpenSpec.ofChange fnExactSumFloatsSpec)

/-- ITS FALSE NEIGHBOUR: 'it returns false'. Refute it at one input. -/
def fnExactSumFloatsWrong : ChangeSpec := { name := "fnExactSumFloats", fn := fun _ => fun
  | [d] => { results := [.lit (.bool false)], args := [d] }
  | _ => none }
def FnExactSumFloatsWrongFalsely : Prop := fnExactSumFloatsRow.holds Try.pinned (OpenSpec.ofChange fnExactSumFloatsWrong)

/-- 'laws.FnExactPairFloats': WHATEVER THE INPUT: true; the input reads as it did. -/
def fnExactPairFloatsSpec : ChangeSpec := { name := "fnExactPairFloats", fn := fun _ => fun
  | [d] => { results := [.lit (.bool true)], args := [d] }
  | _ => none }
def fnExactPairFloatsRow : OpenClaim := { program := "ytbhpdlhmkmkbhaa", sum := "9c0274856c624f7def93c09b7c974f8f5352f9d9de1aabfe41d653cdbc501729", func := "loop.example/g00049/laws.FnExactPairFloats", spec := "fnExactPairFloats", recurses := true, apart := false }
def FnExactPairFloatsSaid : Prop := fnExactPairFloatsRow.holds Try.pinned (OpenSpec.ofChange fnExactPairFloatsSpec)

/-- ITS FALSE NEIGHBOUR: 'it returns false'. Refute it at one input. -/
def fnExactPairFloatsWrong : ChangeSpec := { name := "fnExactPairFloats", fn := fun _ => fun
  | [d] => { results := [.lit (.bool false)], args := [d] }
  | _ => none }
def FnExactPairFloatsWrongFalsely : Prop := fnExactPairFloatsRow.holds Try.pinned (OpenSpec.ofChange fnExactPairFloatsWrong)

/-- 'laws.FnExactDotFloats': WHATEVER THE INPUT: true; the input reads as it did. -/
def fnExactDotFloatsSpec : ChangeSpec := { name := "fnExactDotFloats", fn := fun _ => fun
  | [d1, d2] => { results := [.lit (.bool true)], args := [d1, d2] }
  | _ => none }
def fnExactDotFloatsRow : OpenClaim := { program := "ytbhpdlhmkmkbhaa", sum := "9c0274856c624f7def93c09b7c974f8f5352f9d9de1aabfe41d653cdbc501729", func := "loop.example/g00049/laws.FnExactDotFloats", spec := "fnExactDotFloats", apart := false }
def FnExactDotFloatsSaid : Prop := fnExactDotFloatsRow.holds Try.pinned (OpenSpec.ofChange fnExactDotFloatsSpec)

/-- ITS FALSE NEIGHBOUR: 'it returns false'. Refute it at one input. -/
def fnExactDotFloatsWrong : ChangeSpec := { name := "fnExactDotFloats", fn := fun _ => fun
  | [d1, d2] => { results := [.lit (.bool false)], args := [d1, d2] }
  | _ => none }
def FnExactDotFloatsWrongFalsely : Prop := fnExactDotFloatsRow.holds Try.pinned (OpenSpec.ofChange fnExactDotFloatsWrong)

/- THE SECOND FORM. 'bulk': how many values and letters a reading holds, each counted each time it is reached (what is shared counts as often as it is met; a slice's spare places count too). A statement '..UptoSaid' is the law's where the arguments, and the package variables that the reading takes, are together of bulk at most 1048576: NARROWER than '..Said'. Prove '..Said' where nothing that the law and all that it calls make is longer than what came in: it says more and counts as full. Else prove '..UptoSaid'. A law counts once. -/
mutual
def uptoBulk {H : Type} : DataW H → Nat
  | .lit (.string bytes) => bytes.length + 1
  | .lit _ => 1
  | .nil => 1
  | .ptr d => uptoBulk d + 1
  | .slice elems spare => uptoBulkAll elems + uptoBulkAll spare + 1
  | .agg parts => uptoBulkAll parts + 1
  | .iface _ d => uptoBulk d + 1
  | .map entries => uptoBulkEntries entries + 1
  | .held _ => 1
def uptoBulkAll {H : Type} : List (DataW H) → Nat
  | [] => 0
  | d :: r => uptoBulk d + uptoBulkAll r
def uptoBulkEntries {H : Type} : List (Lit × DataW H) → Nat
  | [] => 0
  | x :: r => uptoBulkEntry x + uptoBulkEntries r
def uptoBulkEntry {H : Type} : Lit × DataW H → Nat
  | (.string bytes, d) => bytes.length + uptoBulk d + 1
  | (_, d) => uptoBulk d + 1
 end
def uptoSmall : (H : Type) → List (DataW H) → Bool := fun _ ds => decide (uptoBulkAll ds ≤ 1048576)
def OpenSpec.upto (s : _root_.Go.ChangeSpec) : _root_.Go.OpenSpec := { _root_.Go.OpenSpec.ofChange s with cond := some uptoSmall }

/-- 'laws.FnFloats', WHERE WHAT IT READS IS OF BULK AT MOST 1048576: true; the input reads as it did. -/
def fnFloatsUptoRow : OpenClaim := { program := "ytbhpdlhmkmkbhaa", sum := "9c0274856c624f7def93c09b7c974f8f5352f9d9de1aabfe41d653cdbc501729", func := "loop.example/g00049/laws.FnFloats", spec := "fnFloats", inPlace := ["math.Float64bits", "math.Float64frombits"], unfollowed := true, recurses := true, apart := false, narrowed := true }
def FnFloatsUptoSaid : Prop := fnFloatsUptoRow.holds Try.pinned (OpenSpec.upto fnFloatsSpec)

/-- 'laws.FnRoots', WHERE WHAT IT READS IS OF BULK AT MOST 1048576: true; the input reads as it did. -/
def fnRootsUptoRow : OpenClaim := { program := "ytbhpdlhmkmkbhaa", sum := "9c0274856c624f7def93c09b7c974f8f5352f9d9de1aabfe41d653cdbc501729", func := "loop.example/g00049/laws.FnRoots", spec := "fnRoots", inPlace := ["math.sqrt", "math.Float64bits", "math.Float64frombits"], apart := false, narrowed := true }
def FnRootsUptoSaid : Prop := fnRootsUptoRow.holds Try.pinned (OpenSpec.upto fnRootsSpec)

/-- 'laws.FnExactFloatBits', WHERE WHAT IT READS IS OF BULK AT MOST 1048576: true; the input reads as it did. -/
def fnExactFloatBitsUptoRow : OpenClaim := { program := "ytbhpdlhmkmkbhaa", sum := "9c0274856c624f7def93c09b7c974f8f5352f9d9de1aabfe41d653cdbc501729", func := "loop.example/g00049/laws.FnExactFloatBits", spec := "fnExactFloatBits", inPlace := ["math.Float64bits"], apart := false, narrowed := true }
def FnExactFloatBitsUptoSaid : Prop := fnExactFloatBitsUptoRow.holds Try.pinned (OpenSpec.upto fnExactFloatBitsSpec)

/-- 'laws.FnExactFloatOf', WHERE WHAT IT READS IS OF BULK AT MOST 1048576: true; the input reads as it did. -/
def fnExactFloatOfUptoRow : OpenClaim := { program := "ytbhpdlhmkmkbhaa", sum := "9c0274856c624f7def93c09b7c974f8f5352f9d9de1aabfe41d653cdbc501729", func := "loop.example/g00049/laws.FnExactFloatOf", spec := "fnExactFloatOf", inPlace := ["math.Float64frombits"], apart := false, narrowed := true }
def FnExactFloatOfUptoSaid : Prop := fnExactFloatOfUptoRow.holds Try.pinned (OpenSpec.upto fnExactFloatOfSpec)

/-- 'laws.FnExactNarrow', WHERE WHAT IT READS IS OF BULK AT MOST 1048576: true; the input reads as it did. -/
def fnExactNarrowUptoRow : OpenClaim := { program := "ytbhpdlhmkmkbhaa", sum := "9c0274856c624f7def93c09b7c974f8f5352f9d9de1aabfe41d653cdbc501729", func := "loop.example/g00049/laws.FnExactNarrow", spec := "fnExactNarrow", apart := false, narrowed := true }
def FnExactNarrowUptoSaid : Prop := fnExactNarrowUptoRow.holds Try.pinned (OpenSpec.upto fnExactNarrowSpec)

/-- 'laws.FnExactSqrtFloat', WHERE WHAT IT READS IS OF BULK AT MOST 1048576: true; the input reads as it did. -/
def fnExactSqrtFloatUptoRow : OpenClaim := { program := "ytbhpdlhmkmkbhaa", sum := "9c0274856c624f7def93c09b7c974f8f5352f9d9de1aabfe41d653cdbc501729", func := "loop.example/g00049/laws.FnExactSqrtFloat", spec := "fnExactSqrtFloat", inPlace := ["math.sqrt"], apart := false, narrowed := true }
def FnExactSqrtFloatUptoSaid : Prop := fnExactSqrtFloatUptoRow.holds Try.pinned (OpenSpec.upto fnExactSqrtFloatSpec)

/-- 'laws.FnExactNextFloat', WHERE WHAT IT READS IS OF BULK AT MOST 1048576: true; the input reads as it did. -/
def fnExactNextFloatUptoRow : OpenClaim := { program := "ytbhpdlhmkmkbhaa", sum := "9c0274856c624f7def93c09b7c974f8f5352f9d9de1aabfe41d653cdbc501729", func := "loop.example/g00049/laws.FnExactNextFloat", spec := "fnExactNextFloat", inPlace := ["math.Float64bits", "math.Float64frombits"], apart := false, narrowed := true }
def FnExactNextFloatUptoSaid : Prop := fnExactNextFloatUptoRow.holds Try.pinned (OpenSpec.upto fnExactNextFloatSpec)

/-- 'laws.FnExactCompareFloats', WHERE WHAT IT READS IS OF BULK AT MOST 1048576: true; the input reads as it did. -/
def fnExactCompareFloatsUptoRow : OpenClaim := { program := "ytbhpdlhmkmkbhaa", sum := "9c0274856c624f7def93c09b7c974f8f5352f9d9de1aabfe41d653cdbc501729", func := "loop.example/g00049/laws.FnExactCompareFloats", spec := "fnExactCompareFloats", inPlace := ["math.Float64bits"], apart := false, narrowed := true }
def FnExactCompareFloatsUptoSaid : Prop := fnExactCompareFloatsUptoRow.holds Try.pinned (OpenSpec.upto fnExactCompareFloatsSpec)

/-- 'laws.FnExactSortFloats', WHERE WHAT IT READS IS OF BULK AT MOST 1048576: true; the input reads as it did. -/
def fnExactSortFloatsUptoRow : OpenClaim := { program := "ytbhpdlhmkmkbhaa", sum := "9c0274856c624f7def93c09b7c974f8f5352f9d9de1aabfe41d653cdbc501729", func := "loop.example/g00049/laws.FnExactSortFloats", spec := "fnExactSortFloats", inPlace := ["math.Float64bits"], unfollowed := true, recurses := true, apart := false, narrowed := true }
def FnExactSortFloatsUptoSaid : Prop := fnExactSortFloatsUptoRow.holds Try.pinned (OpenSpec.upto fnExactSortFloatsSpec)

/-- 'laws.FnExactSumFloats', WHERE WHAT IT READS IS OF BULK AT MOST 1048576: true; the input reads as it did. -/
def fnExactSumFloatsUptoRow : OpenClaim := { program := "ytbhpdlhmkmkbhaa", sum := "9c0274856c624f7def93c09b7c974f8f5352f9d9de1aabfe41d653cdbc501729", func := "loop.example/g00049/laws.FnExactSumFloats", spec := "fnExactSumFloats", apart := false, narrowed := true }
def FnExactSumFloatsUptoSaid : Prop := fnExactSumFloatsUptoRow.holds Try.pinned (OpenSpec.upto fnExactSumFloatsSpec)

/-- 'laws.FnExactPairFloats', WHERE WHAT IT READS IS OF BULK AT MOST 1048576: true; the input reads as it did. -/
def fnExactPairFloatsUptoRow : OpenClaim := { program := "ytbhpdlhmkmkbhaa", sum := "9c0274856c624f7def93c09b7c974f8f5352f9d9de1aabfe41d653cdbc501729", func := "loop.example/g00049/laws.FnExactPairFloats", spec := "fnExactPairFloats", recurses := true, apart := false, narrowed := true }
def FnExactPairFloatsUptoSaid : Prop := fnExactPairFloatsUptoRow.holds Try.pinned (OpenSpec.upto fnExactPairFloatsSpec)

/-- 'laws.FnExactDotFloats', WHERE WHAT IT READS IS OF BULK AT MOST 1048576: true; the input reads as it did. -/
def fnExactDotFloatsUptoRow : OpenClaim := { program := "ytbhpdlhmkmkbhaa", sum := "9c0274856c624f7def93c09b7c974f8f5352f9d9de1aabfe41d653cdbc501729", func := "loop.example/g00049/laws.FnExactDotFloats", spec := "fnExactDotFloats", apart := false, narrowed := true }
def FnExactDotFloatsUptoSaid : Prop := fnExactDotFloatsUptoRow.holds Try.pinned (OpenSpec.upto fnExactDotFloatsSpec)

end Rows
end Go.Proofs.Ytbhpdlhmkmkbhaa
