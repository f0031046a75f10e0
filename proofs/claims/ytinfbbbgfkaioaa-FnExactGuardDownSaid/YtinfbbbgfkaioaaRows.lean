/-
  No cell of these rows narrows 'for every input' (looked for: loops, veiled, ifaces, maps, wideKeys, modest, calm, conditions, laid).
  DERIVED. THE GIVEN ROWS OF THIS SEAT. 6 by the template 'for every input the law returns true; each argument reads behind the call as it read before'; 0 by the template 'total and deterministic' (their statements: YtinfbbbgfkaioaaTotals.lean).
  GIVEN WITH THE SEED: the statements are not yours to turn. If you find one false, say at which input.
  Laid BY PROGRAM, IN A SANDBOX (cutbox-rows.mjs): the forced cells as the released guide's own fill.sh prints them over the translation 656ec1bb24eecfb1… (all of the seat's roots in one cut). By AI agents, Wed Nov 11 2026. No macro, syntax, notation, axiom, sorry.
-/
import Derived.Test.YtinfbbbgfkaioaaChecked
import GoSem.Claim
import GoSem.ClaimJoined
import GoSem.ClaimMapViews
import Derived.JoinedTies
import Derived.KernelRfl
namespace Go.Proofs.Ytinfbbbgfkaioaa
/- THE CELL 'sum', in the pinned program and in every row, IS THE sha256 OF THE DUMP (.gsa) THAT YtinfbbbgfkaioaaProg.lean LOADS. Nothing in Lean hashes anything: it is a label: what it is worth is what the hold of that sum in a sandbox is worth. -/
noncomputable def Try.pinned : Pinned := { name := "ytinfbbbgfkaioaa", sum := "656ec1bb24eecfb1746006615ae374fd89c402e3eb5bbb996c7ff799a91a1417", checked := Try.checked }
namespace Rows
def none {H : Type} : Left H := { results := [], args := [] }

/-- 'laws.FnExactGuardDown': WHATEVER THE INPUT: true; the input reads as it did. -/
def fnExactGuardDownSpec : ChangeSpec := { name := "fnExactGuardDown", fn := fun _ => fun
  | [d1, d2, d3, d4] => { results := [.lit (.bool true)], args := [d1, d2, d3, d4] }
  | _ => none }
def fnExactGuardDownRow : OpenClaim := { program := "ytinfbbbgfkaioaa", sum := "656ec1bb24eecfb1746006615ae374fd89c402e3eb5bbb996c7ff799a91a1417", func := "loop.example/g00049/laws.FnExactGuardDown", spec := "fnExactGuardDown", unfollowed := true, recurses := true, plainKeys := false, apart := false }
def FnExactGuardDownSaid : Prop := fnExactGuardDownRow.holds Try.pinned (OpenSpec.ofChange fnExactGuardDownSpec)

/-- ITS FALSE NEIGHBOUR: 'it returns false'. Refute it at one input. -/
def fnExactGuardDownWrong : ChangeSpec := { name := "fnExactGuardDown", fn := fun _ => fun
  | [d1, d2, d3, d4] => { results := [.lit (.bool false)], args := [d1, d2, d3, d4] }
  | _ => none }
def FnExactGuardDownWrongFalsely : Prop := fnExactGuardDownRow.holds Try.pinned (OpenSpec.ofChange fnExactGuardDownWrong)

/-- 'laws.FnExactSlideTo': WHATEVER THE INPUT: true; the input reads as it did. -/
def fnExactSlideToSpec : ChangeSpec := { name := "fnExactSlideTo", fn := fun _ => fun
  | [d1, d2, d3] => { results := [.lit (.bool true)], args := [d1, d2, d3] }
  | _ => none }
def fnExactSlideToRow : OpenClaim := { program := "ytinfbbbgfkaioaa", sum := "656ec1bb24eecfb1746006615ae374fd89c402e3eb5bbb996c7ff799a91a1417", func := "loop.example/g00049/laws.FnExactSlideTo", spec := "fnExactSlideTo", unfollowed := true, recurses := true, plainKeys := false, apart := false }
def FnExactSlideToSaid : Prop := fnExactSlideToRow.holds Try.pinned (OpenSpec.ofChange fnExactSlideToSpec)

/-- ITS FALSE NEIGHBOUR: 'it returns false'. Refute it at one input. -/
def fnExactSlideToWrong : ChangeSpec := { name := "fnExactSlideTo", fn := fun _ => fun
  | [d1, d2, d3] => { results := [.lit (.bool false)], args := [d1, d2, d3] }
  | _ => none }
def FnExactSlideToWrongFalsely : Prop := fnExactSlideToRow.holds Try.pinned (OpenSpec.ofChange fnExactSlideToWrong)

/-- 'laws.FnExactLowestSlide': WHATEVER THE INPUT: true; the input reads as it did. -/
def fnExactLowestSlideSpec : ChangeSpec := { name := "fnExactLowestSlide", fn := fun _ => fun
  | [d1, d2, d3] => { results := [.lit (.bool true)], args := [d1, d2, d3] }
  | _ => none }
def fnExactLowestSlideRow : OpenClaim := { program := "ytinfbbbgfkaioaa", sum := "656ec1bb24eecfb1746006615ae374fd89c402e3eb5bbb996c7ff799a91a1417", func := "loop.example/g00049/laws.FnExactLowestSlide", spec := "fnExactLowestSlide", unfollowed := true, recurses := true, plainKeys := false, apart := false }
def FnExactLowestSlideSaid : Prop := fnExactLowestSlideRow.holds Try.pinned (OpenSpec.ofChange fnExactLowestSlideSpec)

/-- ITS FALSE NEIGHBOUR: 'it returns false'. Refute it at one input. -/
def fnExactLowestSlideWrong : ChangeSpec := { name := "fnExactLowestSlide", fn := fun _ => fun
  | [d1, d2, d3] => { results := [.lit (.bool false)], args := [d1, d2, d3] }
  | _ => none }
def FnExactLowestSlideWrongFalsely : Prop := fnExactLowestSlideRow.holds Try.pinned (OpenSpec.ofChange fnExactLowestSlideWrong)

/-- 'laws.FnExactTidyNet': WHATEVER THE INPUT: true; the input reads as it did. -/
def fnExactTidyNetSpec : ChangeSpec := { name := "fnExactTidyNet", fn := fun _ => fun
  | [d1, d2] => { results := [.lit (.bool true)], args := [d1, d2] }
  | _ => none }
def fnExactTidyNetRow : OpenClaim := { program := "ytinfbbbgfkaioaa", sum := "656ec1bb24eecfb1746006615ae374fd89c402e3eb5bbb996c7ff799a91a1417", func := "loop.example/g00049/laws.FnExactTidyNet", spec := "fnExactTidyNet", unfollowed := true, recurses := true, plainKeys := false, apart := false }
def FnExactTidyNetSaid : Prop := fnExactTidyNetRow.holds Try.pinned (OpenSpec.ofChange fnExactTidyNetSpec)

/-- ITS FALSE NEIGHBOUR: 'it returns false'. Refute it at one input. -/
def fnExactTidyNetWrong : ChangeSpec := { name := "fnExactTidyNet", fn := fun _ => fun
  | [d1, d2] => { results := [.lit (.bool false)], args := [d1, d2] }
  | _ => none }
def FnExactTidyNetWrongFalsely : Prop := fnExactTidyNetRow.holds Try.pinned (OpenSpec.ofChange fnExactTidyNetWrong)

/-- 'laws.FnExactTopSlot': WHATEVER THE INPUT: true; the input reads as it did. -/
def fnExactTopSlotSpec : ChangeSpec := { name := "fnExactTopSlot", fn := fun _ => fun
  | [d1, d2] => { results := [.lit (.bool true)], args := [d1, d2] }
  | _ => none }
def fnExactTopSlotRow : OpenClaim := { program := "ytinfbbbgfkaioaa", sum := "656ec1bb24eecfb1746006615ae374fd89c402e3eb5bbb996c7ff799a91a1417", func := "loop.example/g00049/laws.FnExactTopSlot", spec := "fnExactTopSlot", unfollowed := true, recurses := true, plainKeys := false, apart := false }
def FnExactTopSlotSaid : Prop := fnExactTopSlotRow.holds Try.pinned (OpenSpec.ofChange fnExactTopSlotSpec)

/-- ITS FALSE NEIGHBOUR: 'it returns false'. Refute it at one input. -/
def fnExactTopSlotWrong : ChangeSpec := { name := "fnExactTopSlot", fn := fun _ => fun
  | [d1, d2] => { results := [.lit (.bool false)], args := [d1, d2] }
  | _ => none }
def FnExactTopSlotWrongFalsely : Prop := fnExactTopSlotRow.holds Try.pinned (OpenSpec.ofChange fnExactTopSlotWrong)

/-- 'laws.FnExactHolesOf': WHATEVER THE INPUT: true; the input reads as it did. -/
def fnExactHolesOfSpec : ChangeSpec := { name := "fnExactHolesOf", fn := fun _ => fun
  | [d1, d2] => { results := [.lit (.bool true)], args := [d1, d2] }
  | _ => none }
def fnExactHolesOfRow : OpenClaim := { program := "ytinfbbbgfkaioaa", sum := "656ec1bb24eecfb1746006615ae374fd89c402e3eb5bbb996c7ff799a91a1417", func := "loop.example/g00049/laws.FnExactHolesOf", spec := "fnExactHolesOf", unfollowed := true, recurses := true, plainKeys := false, apart := false }
def FnExactHolesOfSaid : Prop := fnExactHolesOfRow.holds Try.pinned (OpenSpec.ofChange fnExactHolesOfSpec)

/-- ITS FALSE NEIGHBOUR: 'it returns false'. Refute it at one input. -/
def fnExactHolesOfWrong : ChangeSpec := { name := "fnExactHolesOf", fn := fun _ => fun
  | [d1, d2] => { results := [.lit (.bool false)], args := [d1, d2] }
  | _ => none }
def FnExactHolesOfWrongFalsely : Prop := fnExactHolesOfRow.holds Try.pinned (OpenSpec.ofChange fnExactHolesOfWrong)

/- THE SECOND FORM. 'bulk': how many values and letters a reading holds, each counted each time it is reached (what is shared counts as often as it is met; a slice's spare places count too). A statement '..UptoSaid' is the law's where the arguments, and the package variables that the reading takes, are together of bulk at most 1048576: NARROWER than '..Said'. Prove '..Said' where nothing that the law and all that it calls make is longer than what came in: it says more and counts as full. Else prove '..UptoSaid'. A law counts once. -/
mutual
def uptoBulk {H : Type} : DataW H → Nat
  | .lit (.string bytes) => bytes.length + 1
  | .lit _ => 1
  | .nil => 1
  | .ptr d => uptoBulk d + 1
  | .slice elems spare => uptoBulkAll elems + uptoBulkAll spare + 1
  | .agg parts => uptoBulkAll parts + 1
  | .iface _ d => uptoBulk d + 1
  | .map entries => uptoBulkEntries entries + 1
  | .held _ => 1
def uptoBulkAll {H : Type} : List (DataW H) → Nat
  | [] => 0
  | d :: r => uptoBulk d + uptoBulkAll r
def uptoBulkEntries {H : Type} : List (Lit × DataW H) → Nat
  | [] => 0
  | x :: r => uptoBulkEntry x + uptoBulkEntries r
def uptoBulkEntry {H : Type} : Lit × DataW H → Nat
  | (.string bytes, d) => bytes.length + uptoBulk d + 1
  | (_, d) => uptoBulk d + 1
 end
def uptoSmall : (H : Type) → List (DataW H) → Bool := fun _ ds => decide (uptoBulkAll ds ≤ 1048576)
def OpenSpec.upto (s : _root_.Go.ChangeSpec) : _root_.Go.OpenSpec := { _root_.Go.OpenSpec.ofChange s with cond := some uptoSmall }

/-- 'laws.FnExactGuardDown', WHERE WHAT IT READS IS OF BULK AT MOST 1048576: true; the input reads as it did. -/
def fnExactGuardDownUptoRow : OpenClaim := { program := "ytinfbbbgfkaioaa", sum := "656ec1bb24eecfb1746006615ae374fd89c402e3eb5bbb996c7ff799a91a1417", func := "loop.example/g00049/laws.FnExactGuardDown", spec := "fnExactGuardDown", unfollowed := true, recurses := true, plainKeys := false, apart := false, narrowed := true }
def FnExactGuardDownUptoSaid : Prop := fnExactGuardDownUptoRow.holds Try.pinned (OpenSpec.upto fnExactGuardDownSpec)

/-- 'laws.FnExactSlideTo', WHERE WHAT IT READS IS OF BULK AT MOST 1048576: true; the input reads as it did. -/
def fnExactSlideToUptoRow : OpenClaim := { program := "ytinfbbbgfkaioaa", sum := "656ec1bb24eecfb1746006615ae374fd89c402e3eb5bbb996c7ff799a91a1417", func := "loop.example/g00049/laws.FnExactSlideTo", spec := "fnExactSlideTo", unfollowed := true, recurses := true, plainKeys := false, apart := false, narrowed := true }
def FnExactSlideToUptoSaid : Prop := fnExactSlideToUptoRow.holds Try.pinned (OpenSpec.upto fnExactSlideToSpec)

/-- 'laws.FnExactLowestSlide', WHERE WHAT IT READS IS OF BULK AT MOST 1048576: true; the input reads as it did. -/
def fnExactLowestSlideUptoRow : OpenClaim := { program := "ytinfbbbgfkaioaa", sum := "656ec1bb24eecfb1746006615ae374fd89c402e3eb5bbb996c7ff799a91a1417", func := "loop.example/g00049/laws.FnExactLowestSlide", spec := "fnExactLowestSlide", unfollowed := true, recurses := true, plainKeys := false, apart := false, narrowed := true }
def FnExactLowestSlideUptoSaid : Prop := fnExactLowestSlideUptoRow.holds Try.pinned (OpenSpec.upto fnExactLowestSlideSpec)

/-- 'laws.FnExactTidyNet', WHERE WHAT IT READS IS OF BULK AT MOST 1048576: true; the input reads as it did. -/
def fnExactTidyNetUptoRow : OpenClaim := { program := "ytinfbbbgfkaioaa", sum := "656ec1bb24eecfb1746006615ae374fd89c402e3eb5bbb996c7ff799a91a1417", func := "loop.example/g00049/laws.FnExactTidyNet", spec := "fnExactTidyNet", unfollowed := true, recurses := true, plainKeys := false, apart := false, narrowed := true }
def FnExactTidyNetUptoSaid : Prop := fnExactTidyNetUptoRow.holds Try.pinned (OpenSpec.upto fnExactTidyNetSpec)

/-- 'laws.FnExactTopSlot', WHERE WHAT IT READS IS OF BULK AT MOST 1048576: true; the input reads as it did. -/
def fnExactTopSlotUptoRow : OpenClaim := { program := "ytinfbbbgfkaioaa", sum := "656ec1bb24eecfb1746006615ae374fd89c402e3eb5bbb996c7ff799a91a1417", func := "loop.example/g00049/laws.FnExactTopSlot", spec := "fnExactTopSlot", unfollowed := true, recurses := true, plainKeys := false, apart := false, narrowed := true }
def FnExactTopSlotUptoSaid : Prop := fnExactTopSlotUptoRow.holds Try.pinned (OpenSpec.upto fnExactTopSlotSpec)

/-- 'laws.FnExactHolesOf', WHERE WHAT IT READS IS OF BULK AT MOST 1048576: true; the input reads as it did. -/
def fnExactHolesOfUptoRow : OpenClaim := { program := "ytinfbbbgfkaioaa", sum := "656ec1bb24eecfb1746006615ae374fd89c402e3eb5bbb996c7ff799a91a1417", func := "loop.example/g00049/laws.FnExactHolesOf", spec := "fnExactHolesOf", unfollowed := true, recurses := true, plainKeys := false, apart := false, narrowed := true }
def FnExactHolesOfUptoSaid : Prop := fnExactHolesOfUptoRow.holds Try.pinned (OpenSpec.upto fnExactHolesOfSpec)

end Rows
end Go.Proofs.Ytinfbbbgfkaioaa
