/-
  No cell of these rows narrows 'for every input' (looked for: loops, veiled, ifaces, maps, wideKeys, modest, calm, conditions, laid).
  DERIVED. THE GIVEN ROWS OF THIS SEAT. 4 by the template 'for every input the law returns true; each argument reads behind the call as it read before'; 0 by the template 'total and deterministic' (their statements: YthdiodibcebbbaaTotals.lean).
  GIVEN WITH THE SEED: the statements are not yours to turn. If you find one false, say at which input.
  Laid BY PROGRAM, IN A SANDBOX (cutbox-rows.mjs): the forced cells as the released guide's own fill.sh prints them over the translation 7d2fcadbd959a059… (all of the seat's roots in one cut). By AI agents, Wed Nov 11 2026. No macro, syntax, notation, axiom, sorry.
-/
import Derived.Test.YthdiodibcebbbaaChecked
import GoSem.Claim
import GoSem.ClaimJoined
import GoSem.ClaimMapViews
import Derived.JoinedTies
import Derived.KernelRfl
namespace Go.Proofs.Ythdiodibcebbbaa
/- THE CELL 'sum', in the pinned program and in every row, IS THE sha256 OF THE DUMP (.gsa) THAT YthdiodibcebbbaaProg.lean LOADS. Nothing in Lean hashes anything: it is a label: what it is worth is what the hold of that sum in a sandbox is worth. -/
noncomputable def Try.pinned : Pinned := { name := "ythdiodibcebbbaa", sum := "7d2fcadbd959a059322848995c62a39a50bccb17178b039f0e0e65ed85d3c8c9", checked := Try.checked }
namespace Rows
def none {H : Type} : Left H := { results := [], args := [] }

/-- 'laws.FnExactRoutesOf': WHATEVER THE INPUT: true; the input reads as it did. -/
def fnExactRoutesOfSpec : ChangeSpec := { name := "fnExactRoutesOf", fn := fun _ => fun
  | [d1, d2, d3, d4] => { results := [.lit (.bool true)], args := [d1, d2, d3, d4] }
  | _ => none }
def fnExactRoutesOfRow : OpenClaim := { program := "ythdiodibcebbbaa", sum := "7d2fcadbd959a059322848995c62a39a50bccb17178b039f0e0e65ed85d3c8c9", func := "loop.example/g00049/laws.FnExactRoutesOf", spec := "fnExactRoutesOf", unfollowed := true, recurses := true, plainKeys := false, apart := false }
def FnExactRoutesOfSaid : Prop := fnExactRoutesOfRow.holds Try.pinned (OpenSpec.ofChange fnExactRoutesOfSpec)

/-- ITS FALSE NEIGHBOUR: 'it returns false'. Refute it at one input. -/
def fnExactRoutesOfWrong : ChangeSpec := { name := "fnExactRoutesOf", fn := fun _ => fun
  | [d1, d2, d3, d4] => { results := [.lit (.bool false)], args := [d1, d2, d3, d4] }
  | _ => none }
def FnExactRoutesOfWrongFalsely : Prop := fnExactRoutesOfRow.holds Try.pinned (OpenSpec.ofChange fnExactRoutesOfWrong)

/-- 'laws.FnExactGuardsFault': WHATEVER THE INPUT: true; the input reads as it did. -/
def fnExactGuardsFaultSpec : ChangeSpec := { name := "fnExactGuardsFault", fn := fun _ => fun
  | [d1, d2, d3] => { results := [.lit (.bool true)], args := [d1, d2, d3] }
  | _ => none }
def fnExactGuardsFaultRow : OpenClaim := { program := "ythdiodibcebbbaa", sum := "7d2fcadbd959a059322848995c62a39a50bccb17178b039f0e0e65ed85d3c8c9", func := "loop.example/g00049/laws.FnExactGuardsFault", spec := "fnExactGuardsFault", unfollowed := true, recurses := true, plainKeys := false, apart := false }
def FnExactGuardsFaultSaid : Prop := fnExactGuardsFaultRow.holds Try.pinned (OpenSpec.ofChange fnExactGuardsFaultSpec)

/-- ITS FALSE NEIGHBOUR: 'it returns false'. Refute it at one input. -/
def fnExactGuardsFaultWrong : ChangeSpec := { name := "fnExactGuardsFault", fn := fun _ => fun
  | [d1, d2, d3] => { results := [.lit (.bool false)], args := [d1, d2, d3] }
  | _ => none }
def FnExactGuardsFaultWrongFalsely : Prop := fnExactGuardsFaultRow.holds Try.pinned (OpenSpec.ofChange fnExactGuardsFaultWrong)

/-- 'laws.FnExactGuardDown': WHATEVER THE INPUT: true; the input reads as it did. -/
def fnExactGuardDownSpec : ChangeSpec := { name := "fnExactGuardDown", fn := fun _ => fun
  | [d1, d2, d3, d4] => { results := [.lit (.bool true)], args := [d1, d2, d3, d4] }
  | _ => none }
def fnExactGuardDownRow : OpenClaim := { program := "ythdiodibcebbbaa", sum := "7d2fcadbd959a059322848995c62a39a50bccb17178b039f0e0e65ed85d3c8c9", func := "loop.example/g00049/laws.FnExactGuardDown", spec := "fnExactGuardDown", unfollowed := true, recurses := true, plainKeys := false, apart := false }
def FnExactGuardDownSaid : Prop := fnExactGuardDownRow.holds Try.pinned (OpenSpec.ofChange fnExactGuardDownSpec)

/-- ITS FALSE NEIGHBOUR: 'it returns false'. Refute it at one input. -/
def fnExactGuardDownWrong : ChangeSpec := { name := "fnExactGuardDown", fn := fun _ => fun
  | [d1, d2, d3, d4] => { results := [.lit (.bool false)], args := [d1, d2, d3, d4] }
  | _ => none }
def FnExactGuardDownWrongFalsely : Prop := fnExactGuardDownRow.holds Try.pinned (OpenSpec.ofChange fnExactGuardDownWrong)

/-- 'laws.FnExactCutNet': WHATEVER THE INPUT: true; the input reads as it did. -/
def fnExactCutNetSpec : ChangeSpec := { name := "fnExactCutNet", fn := fun _ => fun
  | [d1, d2] => { results := [.lit (.bool true)], args := [d1, d2] }
  | _ => none }
def fnExactCutNetRow : OpenClaim := { program := "ythdiodibcebbbaa", sum := "7d2fcadbd959a059322848995c62a39a50bccb17178b039f0e0e65ed85d3c8c9", func := "loop.example/g00049/laws.FnExactCutNet", spec := "fnExactCutNet", unfollowed := true, recurses := true, plainKeys := false, apart := false }
def FnExactCutNetSaid : Prop := fnExactCutNetRow.holds Try.pinned (OpenSpec.ofChange fnExactCutNetSpec)

/-- ITS FALSE NEIGHBOUR: 'it returns false'. Refute it at one input. -/
def fnExactCutNetWrong : ChangeSpec := { name := "fnExactCutNet", fn := fun _ => fun
  | [d1, d2] => { results := [.lit (.bool false)], args := [d1, d2] }
  | _ => none }
def FnExactCutNetWrongFalsely : Prop := fnExactCutNetRow.holds Try.pinned (OpenSpec.ofChange fnExactCutNetWrong)

/- THE SECOND FORM. 'bulk': how many values and letters a reading holds, each counted each time it is reached (what is shared counts as often as it is met; a slice's spare places count too). A statement '..UptoSaid' is the law's where the arguments, and the package variables that the reading takes, are together of bulk at most 1048576: NARROWER than '..Said'. Prove '..Said' where nothing that the law and all that it calls make is longer than what came in: it says more and counts as full. Else prove '..UptoSaid'. A law counts once. -/
mutual
def uptoBulk {H : Type} : DataW H → Nat
  | .lit (.string bytes) => bytes.length + 1
  | .lit _ => 1
  | .nil => 1
  | .ptr d => uptoBulk d + 1
  | .slice elems spare => uptoBulkAll elems + uptoBulkAll spare + 1
  | .agg parts => uptoBulkAll parts + 1
  | .iface _ d => uptoBulk d + 1
  | .map entries => uptoBulkEntries entries + 1
  | .held _ => 1
def uptoBulkAll {H : Type} : List (DataW H) → Nat
  | [] => 0
  | d :: r => uptoBulk d + uptoBulkAll r
def uptoBulkEntries {H : Type} : List (Lit × DataW H) → Nat
  | [] => 0
  | x :: r => uptoBulkEntry x + uptoBulkEntries r
def uptoBulkEntry {H : Type} : Lit × DataW H → Nat
  | (.string bytes, d) => bytes.length + uptoBulk d + 1
  | (_, d) => uptoBulk d + 1
 end
def uptoSmall : (H : Type) → List (DataW H) → Bool := fun _ ds => decide (uptoBulkAll ds ≤ 1048576)
def OpenSpec.upto (s : _root_.Go.ChangeSpec) : _root_.Go.OpenSpec := { _root_.Go.OpenSpec.ofChange s with cond := some uptoSmall }

/-- 'laws.FnExactRoutesOf', WHERE WHAT IT READS IS OF BULK AT MOST 1048576: true; the input reads as it did. -/
def fnExactRoutesOfUptoRow : OpenClaim := { program := "ythdiodibcebbbaa", sum := "7d2fcadbd959a059322848995c62a39a50bccb17178b039f0e0e65ed85d3c8c9", func := "loop.example/g00049/laws.FnExactRoutesOf", spec := "fnExactRoutesOf", unfollowed := true, recurses := true, plainKeys := false, apart := false, narrowed := true }
def FnExactRoutesOfUptoSaid : Prop := fnExactRoutesOfUptoRow.holds Try.pinned (OpenSpec.upto fnExactRoutesOfSpec)

/-- 'laws.FnExactGuardsFault', WHERE WHAT IT READS IS OF BULK AT MOST 1048576: true; the input reads as it did. -/
def fnExactGuardsFaultUptoRow : OpenClaim := { program := "ythdiodibcebbbaa", sum := "7d2fcadbd959a059322848995c62a39a50bccb17178b039f0e0e65ed85d3c8c9", func := "loop.example/g00049/laws.FnExactGuardsFault", spec := "fnExactGuardsFault", unfollowed := true, recurses := true, plainKeys := false, apart := false, narrowed := true }
def FnExactGuardsFaultUptoSaid : Prop := fnExactGuardsFaultUptoRow.holds Try.pinned (OpenSpec.upto fnExactGuardsFaultSpec)

/-- 'laws.FnExactGuardDown', WHERE WHAT IT READS IS OF BULK AT MOST 1048576: true; the input reads as it did. -/
def fnExactGuardDownUptoRow : OpenClaim := { program := "ythdiodibcebbbaa", sum := "7d2fcadbd959a059322848995c62a39a50bccb17178b039f0e0e65ed85d3c8c9", func := "loop.example/g00049/laws.FnExactGuardDown", spec := "fnExactGuardDown", unfollowed := true, recurses := true, plainKeys := false, apart := false, narrowed := true }
def FnExactGuardDownUptoSaid : Prop := fnExactGuardDownUptoRow.holds Try.pinned (OpenSpec.upto fnExactGuardDownSpec)

/-- 'laws.FnExactCutNet', WHERE WHAT IT READS IS OF BULK AT MOST 1048576: true; the input reads as it did. -/
def fnExactCutNetUptoRow : OpenClaim := { program := "ythdiodibcebbbaa", sum := "7d2fcadbd959a059322848995c62a39a50bccb17178b039f0e0e65ed85d3c8c9", func := "loop.example/g00049/laws.FnExactCutNet", spec := "fnExactCutNet", unfollowed := true, recurses := true, plainKeys := false, apart := false, narrowed := true }
def FnExactCutNetUptoSaid : Prop := fnExactCutNetUptoRow.holds Try.pinned (OpenSpec.upto fnExactCutNetSpec)

end Rows
end Go.Proofs.Ythdiodibcebbbaa
