/-
  No cell of these rows narrows 'for every input' (looked for: loops, veiled, ifaces, maps, wideKeys, modest, calm, conditions, laid).
  DERIVED. THE GIVEN ROWS OF THIS SEAT. 6 by the template 'for every input the law returns true; each argument reads behind the call as it read before'; 0 by the template 'total and deterministic' (their statements: YtfdgnafakjlhaaaTotals.lean).
  GIVEN WITH THE SEED: the statements are not yours to turn. If you find one false, say at which input.
  Laid BY PROGRAM, IN A SANDBOX (cutbox-rows.mjs): the forced cells as the released guide's own fill.sh prints them over the translation a6ae38da93055a8b… (all of the seat's roots in one cut). By AI agents, Wed Nov 11 2026. No macro, syntax, notation, axiom, sorry.
-/
import Derived.Test.YtfdgnafakjlhaaaChecked
import GoSem.Claim
import GoSem.ClaimJoined
import GoSem.ClaimMapViews
import Derived.JoinedTies
import Derived.KernelRfl
namespace Go.Proofs.Ytfdgnafakjlhaaa
/- THE CELL 'sum', in the pinned program and in every row, IS THE sha256 OF THE DUMP (.gsa) THAT YtfdgnafakjlhaaaProg.lean LOADS. Nothing in Lean hashes anything: it is a label: what it is worth is what the hold of that sum in a sandbox is worth. -/
noncomputable def Try.pinned : Pinned := { name := "ytfdgnafakjlhaaa", sum := "a6ae38da93055a8bcf89b67af1abf3de8b029bf7771ad5496a1e8fa6fe55875b", checked := Try.checked }
namespace Rows
def none {H : Type} : Left H := { results := [], args := [] }

/-- 'laws.FnLenses': WHATEVER THE INPUT: true; the input reads as it did. -/
def fnLensesSpec : ChangeSpec := { name := "fnLenses", fn := fun _ => fun
  | [d] => { results := [.lit (.bool true)], args := [d] }
  | _ => none }
def fnLensesRow : OpenClaim := { program := "ytfdgnafakjlhaaa", sum := "a6ae38da93055a8bcf89b67af1abf3de8b029bf7771ad5496a1e8fa6fe55875b", func := "loop.example/g00049/laws.FnLenses", spec := "fnLenses", unfollowed := true, recurses := true, apart := false }
def FnLensesSaid : Prop := fnLensesRow.holds Try.pinned (OpenSpec.ofChange fnLensesSpec)

/-- ITS FALSE NEIGHBOUR: 'it returns false'. Refute it at one input. -/
def fnLensesWrong : ChangeSpec := { name := "fnLenses", fn := fun _ => fun
  | [d] => { results := [.lit (.bool false)], args := [d] }
  | _ => none }
def FnLensesWrongFalsely : Prop := fnLensesRow.holds Try.pinned (OpenSpec.ofChange fnLensesWrong)

/-- 'laws.FnExactLensName': WHATEVER THE INPUT: true; the input reads as it did. -/
def fnExactLensNameSpec : ChangeSpec := { name := "fnExactLensName", fn := fun _ => fun
  | [d] => { results := [.lit (.bool true)], args := [d] }
  | _ => none }
def fnExactLensNameRow : OpenClaim := { program := "ytfdgnafakjlhaaa", sum := "a6ae38da93055a8bcf89b67af1abf3de8b029bf7771ad5496a1e8fa6fe55875b", func := "loop.example/g00049/laws.FnExactLensName", spec := "fnExactLensName", apart := false }
def FnExactLensNameSaid : Prop := fnExactLensNameRow.holds Try.pinned (OpenSpec.ofChange fnExactLensNameSpec)

/-- ITS FALSE NEIGHBOUR: 'it returns false'. Refute it at one input. -/
def fnExactLensNameWrong : ChangeSpec := { name := "fnExactLensName", fn := fun _ => fun
  | [d] => { results := [.lit (.bool false)], args := [d] }
  | _ => none }
def FnExactLensNameWrongFalsely : Prop := fnExactLensNameRow.holds Try.pinned (OpenSpec.ofChange fnExactLensNameWrong)

/-- 'laws.FnExactLensFault': WHATEVER THE INPUT: true; the input reads as it did. -/
def fnExactLensFaultSpec : ChangeSpec := { name := "fnExactLensFault", fn := fun _ => fun
  | [d] => { results := [.lit (.bool true)], args := [d] }
  | _ => none }
def fnExactLensFaultRow : OpenClaim := { program := "ytfdgnafakjlhaaa", sum := "a6ae38da93055a8bcf89b67af1abf3de8b029bf7771ad5496a1e8fa6fe55875b", func := "loop.example/g00049/laws.FnExactLensFault", spec := "fnExactLensFault", apart := false }
def FnExactLensFaultSaid : Prop := fnExactLensFaultRow.holds Try.pinned (OpenSpec.ofChange fnExactLensFaultSpec)

/-- ITS FALSE NEIGHBOUR: 'it returns false'. Refute it at one input. -/
def fnExactLensFaultWrong : ChangeSpec := { name := "fnExactLensFault", fn := fun _ => fun
  | [d] => { results := [.lit (.bool false)], args := [d] }
  | _ => none }
def FnExactLensFaultWrongFalsely : Prop := fnExactLensFaultRow.holds Try.pinned (OpenSpec.ofChange fnExactLensFaultWrong)

/-- 'laws.FnExactConfigsOf': WHATEVER THE INPUT: true; the input reads as it did. -/
def fnExactConfigsOfSpec : ChangeSpec := { name := "fnExactConfigsOf", fn := fun _ => fun
  | [d] => { results := [.lit (.bool true)], args := [d] }
  | _ => none }
def fnExactConfigsOfRow : OpenClaim := { program := "ytfdgnafakjlhaaa", sum := "a6ae38da93055a8bcf89b67af1abf3de8b029bf7771ad5496a1e8fa6fe55875b", func := "loop.example/g00049/laws.FnExactConfigsOf", spec := "fnExactConfigsOf", apart := false }
def FnExactConfigsOfSaid : Prop := fnExactConfigsOfRow.holds Try.pinned (OpenSpec.ofChange fnExactConfigsOfSpec)

/-- ITS FALSE NEIGHBOUR: 'it returns false'. Refute it at one input. -/
def fnExactConfigsOfWrong : ChangeSpec := { name := "fnExactConfigsOf", fn := fun _ => fun
  | [d] => { results := [.lit (.bool false)], args := [d] }
  | _ => none }
def FnExactConfigsOfWrongFalsely : Prop := fnExactConfigsOfRow.holds Try.pinned (OpenSpec.ofChange fnExactConfigsOfWrong)

/-- 'laws.FnExactPartsOf': WHATEVER THE INPUT: true; the input reads as it did. -/
def fnExactPartsOfSpec : ChangeSpec := { name := "fnExactPartsOf", fn := fun _ => fun
  | [d] => { results := [.lit (.bool true)], args := [d] }
  | _ => none }
def fnExactPartsOfRow : OpenClaim := { program := "ytfdgnafakjlhaaa", sum := "a6ae38da93055a8bcf89b67af1abf3de8b029bf7771ad5496a1e8fa6fe55875b", func := "loop.example/g00049/laws.FnExactPartsOf", spec := "fnExactPartsOf", apart := false }
def FnExactPartsOfSaid : Prop := fnExactPartsOfRow.holds Try.pinned (OpenSpec.ofChange fnExactPartsOfSpec)

/-- ITS FALSE NEIGHBOUR: 'it returns false'. Refute it at one input. -/
def fnExactPartsOfWrong : ChangeSpec := { name := "fnExactPartsOf", fn := fun _ => fun
  | [d] => { results := [.lit (.bool false)], args := [d] }
  | _ => none }
def FnExactPartsOfWrongFalsely : Prop := fnExactPartsOfRow.holds Try.pinned (OpenSpec.ofChange fnExactPartsOfWrong)

/-- 'laws.FnExactFlipLens': WHATEVER THE INPUT: true; the input reads as it did. -/
def fnExactFlipLensSpec : ChangeSpec := { name := "fnExactFlipLens", fn := fun _ => fun
  | [d] => { results := [.lit (.bool true)], args := [d] }
  | _ => none }
def fnExactFlipLensRow : OpenClaim := { program := "ytfdgnafakjlhaaa", sum := "a6ae38da93055a8bcf89b67af1abf3de8b029bf7771ad5496a1e8fa6fe55875b", func := "loop.example/g00049/laws.FnExactFlipLens", spec := "fnExactFlipLens", apart := false }
def FnExactFlipLensSaid : Prop := fnExactFlipLensRow.holds Try.pinned (OpenSpec.ofChange fnExactFlipLensSpec)

/-- ITS FALSE NEIGHBOUR: 'it returns false'. Refute it at one input. -/
def fnExactFlipLensWrong : ChangeSpec := { name := "fnExactFlipLens", fn := fun _ => fun
  | [d] => { results := [.lit (.bool false)], args := [d] }
  | _ => none }
def FnExactFlipLensWrongFalsely : Prop := fnExactFlipLensRow.holds Try.pinned (OpenSpec.ofChange fnExactFlipLensWrong)

/- THE SECOND FORM. 'bulk': how many values and letters a reading holds, each counted each time it is reached (what is shared counts as often as it is met; a slice's spare places count too). A statement '..UptoSaid' is the law's where the arguments, and the package variables that the reading takes, are together of bulk at most 1048576: NARROWER than '..Said'. Prove '..Said' where nothing that the law and all that it calls make is longer than what came in: it says more and counts as full. Else prove '..UptoSaid'. A law counts once. -/
mutual
def uptoBulk {H : Type} : DataW H → Nat
  | .lit (.string bytes) => bytes.length + 1
  | .lit _ => 1
  | .nil => 1
  | .ptr d => uptoBulk d + 1
  | .slice elems spare => uptoBulkAll elems + uptoBulkAll spare + 1
  | .agg parts => uptoBulkAll parts + 1
  | .iface _ d => uptoBulk d + 1
  | .map entries => uptoBulkEntries entries + 1
  | .held _ => 1
def uptoBulkAll {H : Type} : List (DataW H) → Nat
  | [] => 0
  | d :: r => uptoBulk d + uptoBulkAll r
def uptoBulkEntries {H : Type} : List (Lit × DataW H) → Nat
  | [] => 0
  | x :: r => uptoBulkEntry x + uptoBulkEntries r
def uptoBulkEntry {H : Type} : Lit × DataW H → Nat
  | (.string bytes, d) => bytes.length + uptoBulk d + 1
  | (_, d) => uptoBulk d + 1
 end
def uptoSmall : (H : Type) → List (DataW H) → Bool := fun _ ds => decide (uptoBulkAll ds ≤ 1048576)
def OpenSpec.upto (s : _root_.Go.ChangeSpec) : _root_.Go.OpenSpec := { _root_.Go.OpenSpec.ofChange s with cond := some uptoSmall }

/-- 'laws.FnLenses', WHERE WHAT IT READS IS OF BULK AT MOST 1048576: true; the input reads as it did. -/
def fnLensesUptoRow : OpenClaim := { program := "ytfdgnafakjlhaaa", sum := "a6ae38da93055a8bcf89b67af1abf3de8b029bf7771ad5496a1e8fa6fe55875b", func := "loop.example/g00049/laws.FnLenses", spec := "fnLenses", unfollowed := true, recurses := true, apart := false, narrowed := true }
def FnLensesUptoSaid : Prop := fnLensesUptoRow.holds Try.pinned (OpenSpec.upto fnLensesSpec)

/-- 'laws.FnExactLensName', WHERE WHAT IT READS IS OF BULK AT MOST 1048576: true; the input reads as it did. -/
def fnExactLensNameUptoRow : OpenClaim := { program := "ytfdgnafakjlhaaa", sum := "a6ae38da93055a8bcf89b67af1abf3de8b029bf7771ad5496a1e8fa6fe55875b", func := "loop.example/g00049/laws.FnExactLensName", spec := "fnExactLensName", apart := false, narrowed := true }
def FnExactLensNameUptoSaid : Prop := fnExactLensNameUptoRow.holds Try.pinned (OpenSpec.upto fnExactLensNameSpec)

/-- 'laws.FnExactLensFault', WHERE WHAT IT READS IS OF BULK AT MOST 1048576: true; the input reads as it did. -/
def fnExactLensFaultUptoRow : OpenClaim := { program := "ytfdgnafakjlhaaa", sum := "a6ae38da93055a8bcf89b67af1abf3de8b029bf7771ad5496a1e8fa6fe55875b", func := "loop.example/g00049/laws.FnExactLensFault", spec := "fnExactLensFault", apart := false, narrowed := true }
def FnExactLensFaultUptoSaid : Prop := fnExactLensFaultUptoRow.holds Try.pinned (OpenSpec.upto fnExactLensFaultSpec)

/-- 'laws.FnExactConfigsOf', WHERE WHAT IT READS IS OF BULK AT MOST 1048576: true; the input reads as it did. -/
def fnExactConfigsOfUptoRow : OpenClaim := { program := "ytfdgnafakjlhaaa", sum := "a6ae38da93055a8bcf89b67af1abf3de8b029bf7771ad5496a1e8fa6fe55875b", func := "loop.example/g00049/laws.FnExactConfigsOf", spec := "fnExactConfigsOf", apart := false, narrowed := true }
def FnExactConfigsOfUptoSaid : Prop := fnExactConfigsOfUptoRow.holds Try.pinned (OpenSpec.upto fnExactConfigsOfSpec)

/-- 'laws.FnExactPartsOf', WHERE WHAT IT READS IS OF BULK AT MOST 1048576: true; the input reads as it did. -/
def fnExactPartsOfUptoRow : OpenClaim := { program := "ytfdgnafakjlhaaa", sum := "a6ae38da93055a8bcf89b67af1abf3de8b029bf7771ad5496a1e8fa6fe55875b", func := "loop.example/g00049/laws.FnExactPartsOf", spec := "fnExactPartsOf", apart := false, narrowed := true }
def FnExactPartsOfUptoSaid : Prop := fnExactPartsOfUptoRow.holds Try.pinned (OpenSpec.upto fnExactPartsOfSpec)

/-- 'laws.FnExactFlipLens', WHERE WHAT IT READS IS OF BULK AT MOST 1048576: true; the input reads as it did. -/
def fnExactFlipLensUptoRow : OpenClaim := { program := "ytfdgnafakjlhaaa", sum := "a6ae38da93055a8bcf89b67af1abf3de8b029bf7771ad5496a1e8fa6fe55875b", func := "loop.example/g00049/laws.FnExactFlipLens", spec := "fnExactFlipLens", apart := false, narrowed := true }
def FnExactFlipLensUptoSaid : Prop := fnExactFlipLensUptoRow.holds Try.pinned (OpenSpec.upto fnExactFlipLensSpec)

end Rows
end Go.Proofs.Ytfdgnafakjlhaaa
