/-
  No cell of these rows narrows 'for every input' (looked for: loops, veiled, ifaces, maps, wideKeys, modest, calm, conditions, laid).
  DERIVED. THE GIVEN ROWS OF THIS SEAT. 9 by the template 'for every input the law returns true; each argument reads behind the call as it read before'; 0 by the template 'total and deterministic' (their statements: YtopmalpkopnmhaaTotals.lean).
  GIVEN WITH THE SEED: the statements are not yours to turn. If you find one false, say at which input.
  Laid BY PROGRAM, IN A SANDBOX (cutbox-rows.mjs): the forced cells as the released guide's own fill.sh prints them over the translation 36d58f73aca8435a… (all of the seat's roots in one cut). By AI agents, Wed Nov 11 2026. No macro, syntax, notation, axiom, sorry.
-/
import Derived.Test.YtopmalpkopnmhaaChecked
import GoSem.Claim
import GoSem.ClaimJoined
import GoSem.ClaimMapViews
import Derived.JoinedTies
import Derived.KernelRfl
namespace Go.Proofs.Ytopmalpkopnmhaa
/- THE CELL 'sum', in the pinned program and in every row, IS THE sha256 OF THE DUMP (.gsa) THAT YtopmalpkopnmhaaProg.lean LOADS. Nothing in Lean hashes anything: it is a label: what it is worth is what the hold of that sum in a sandbox is worth. -/
noncomputable def Try.pinned : Pinned := { name := "ytopmalpkopnmhaa", sum := "36d58f73aca8435a79fd1126ce17e55e7a297ef9c3a81f146ae889758af3cf20", checked := Try.checked }
namespace Rows
def none {H : Type} : Left H := { results := [], args := [] }

/-- 'laws.FnExactAddMod': WHATEVER THE INPUT: true; the input reads as it did. -/
def fnExactAddModSpec : ChangeSpec := { name := "fnExactAddMod", fn := fun _ => fun
  | [d1, d2] => { results := [.lit (.bool true)], args := [d1, d2] }
  | _ => none }
def fnExactAddModRow : OpenClaim := { program := "ytopmalpkopnmhaa", sum := "36d58f73aca8435a79fd1126ce17e55e7a297ef9c3a81f146ae889758af3cf20", func := "loop.example/g00049/laws.FnExactAddMod", spec := "fnExactAddMod", apart := false }
def FnExactAddModSaid : Prop := fnExactAddModRow.holds Try.pinned (OpenSpec.ofChange fnExactAddModSpec)

/-- ITS FALSE NEIGHBOUR: 'it returns false'. Refute it at one input. -/
def fnExactAddModWrong : ChangeSpec := { name := "fnExactAddMod", fn := fun _ => fun
  | [d1, d2] => { results := [.lit (.bool false)], args := [d1, d2] }
  | _ => none }
def FnExactAddModWrongFalsely : Prop := fnExactAddModRow.holds Try.pinned (OpenSpec.ofChange fnExactAddModWrong)

/-- 'laws.FnExactMulMod': WHATEVER THE INPUT: true; the input reads as it did. -/
def fnExactMulModSpec : ChangeSpec := { name := "fnExactMulMod", fn := fun _ => fun
  | [d1, d2] => { results := [.lit (.bool true)], args := [d1, d2] }
  | _ => none }
def fnExactMulModRow : OpenClaim := { program := "ytopmalpkopnmhaa", sum := "36d58f73aca8435a79fd1126ce17e55e7a297ef9c3a81f146ae889758af3cf20", func := "loop.example/g00049/laws.FnExactMulMod", spec := "fnExactMulMod", apart := false }
def FnExactMulModSaid : Prop := fnExactMulModRow.holds Try.pinned (OpenSpec.ofChange fnExactMulModSpec)

/-- ITS FALSE NEIGHBOUR: 'it returns false'. Refute it at one input. -/
def fnExactMulModWrong : ChangeSpec := { name := "fnExactMulMod", fn := fun _ => fun
  | [d1, d2] => { results := [.lit (.bool false)], args := [d1, d2] }
  | _ => none }
def FnExactMulModWrongFalsely : Prop := fnExactMulModRow.holds Try.pinned (OpenSpec.ofChange fnExactMulModWrong)

/-- 'laws.FnExactPowMod': WHATEVER THE INPUT: true; the input reads as it did. -/
def fnExactPowModSpec : ChangeSpec := { name := "fnExactPowMod", fn := fun _ => fun
  | [d1, d2] => { results := [.lit (.bool true)], args := [d1, d2] }
  | _ => none }
def fnExactPowModRow : OpenClaim := { program := "ytopmalpkopnmhaa", sum := "36d58f73aca8435a79fd1126ce17e55e7a297ef9c3a81f146ae889758af3cf20", func := "loop.example/g00049/laws.FnExactPowMod", spec := "fnExactPowMod", apart := false }
def FnExactPowModSaid : Prop := fnExactPowModRow.holds Try.pinned (OpenSpec.ofChange fnExactPowModSpec)

/-- ITS FALSE NEIGHBOUR: 'it returns false'. Refute it at one input. -/
def fnExactPowModWrong : ChangeSpec := { name := "fnExactPowMod", fn := fun _ => fun
  | [d1, d2] => { results := [.lit (.bool false)], args := [d1, d2] }
  | _ => none }
def FnExactPowModWrongFalsely : Prop := fnExactPowModRow.holds Try.pinned (OpenSpec.ofChange fnExactPowModWrong)

/-- 'laws.FnExactInvMod': WHATEVER THE INPUT: true; the input reads as it did. -/
def fnExactInvModSpec : ChangeSpec := { name := "fnExactInvMod", fn := fun _ => fun
  | [d] => { results := [.lit (.bool true)], args := [d] }
  | _ => none }
def fnExactInvModRow : OpenClaim := { program := "ytopmalpkopnmhaa", sum := "36d58f73aca8435a79fd1126ce17e55e7a297ef9c3a81f146ae889758af3cf20", func := "loop.example/g00049/laws.FnExactInvMod", spec := "fnExactInvMod", apart := false }
def FnExactInvModSaid : Prop := fnExactInvModRow.holds Try.pinned (OpenSpec.ofChange fnExactInvModSpec)

/-- ITS FALSE NEIGHBOUR: 'it returns false'. Refute it at one input. -/
def fnExactInvModWrong : ChangeSpec := { name := "fnExactInvMod", fn := fun _ => fun
  | [d] => { results := [.lit (.bool false)], args := [d] }
  | _ => none }
def FnExactInvModWrongFalsely : Prop := fnExactInvModRow.holds Try.pinned (OpenSpec.ofChange fnExactInvModWrong)

/-- 'laws.FnExactRootMod': WHATEVER THE INPUT: true; the input reads as it did. -/
def fnExactRootModSpec : ChangeSpec := { name := "fnExactRootMod", fn := fun _ => fun
  | [d] => { results := [.lit (.bool true)], args := [d] }
  | _ => none }
def fnExactRootModRow : OpenClaim := { program := "ytopmalpkopnmhaa", sum := "36d58f73aca8435a79fd1126ce17e55e7a297ef9c3a81f146ae889758af3cf20", func := "loop.example/g00049/laws.FnExactRootMod", spec := "fnExactRootMod", apart := false }
def FnExactRootModSaid : Prop := fnExactRootModRow.holds Try.pinned (OpenSpec.ofChange fnExactRootModSpec)

/-- ITS FALSE NEIGHBOUR: 'it returns false'. Refute it at one input. -/
def fnExactRootModWrong : ChangeSpec := { name := "fnExactRootMod", fn := fun _ => fun
  | [d] => { results := [.lit (.bool false)], args := [d] }
  | _ => none }
def FnExactRootModWrongFalsely : Prop := fnExactRootModRow.holds Try.pinned (OpenSpec.ofChange fnExactRootModWrong)

/-- 'laws.FnExactRowsFault': WHATEVER THE INPUT: true; the input reads as it did. -/
def fnExactRowsFaultSpec : ChangeSpec := { name := "fnExactRowsFault", fn := fun _ => fun
  | [d] => { results := [.lit (.bool true)], args := [d] }
  | _ => none }
def fnExactRowsFaultRow : OpenClaim := { program := "ytopmalpkopnmhaa", sum := "36d58f73aca8435a79fd1126ce17e55e7a297ef9c3a81f146ae889758af3cf20", func := "loop.example/g00049/laws.FnExactRowsFault", spec := "fnExactRowsFault", apart := false }
def FnExactRowsFaultSaid : Prop := fnExactRowsFaultRow.holds Try.pinned (OpenSpec.ofChange fnExactRowsFaultSpec)

/-- ITS FALSE NEIGHBOUR: 'it returns false'. Refute it at one input. -/
def fnExactRowsFaultWrong : ChangeSpec := { name := "fnExactRowsFault", fn := fun _ => fun
  | [d] => { results := [.lit (.bool false)], args := [d] }
  | _ => none }
def FnExactRowsFaultWrongFalsely : Prop := fnExactRowsFaultRow.holds Try.pinned (OpenSpec.ofChange fnExactRowsFaultWrong)

/-- 'laws.FnExactMulRows': WHATEVER THE INPUT: true; the input reads as it did. -/
def fnExactMulRowsSpec : ChangeSpec := { name := "fnExactMulRows", fn := fun _ => fun
  | [d1, d2] => { results := [.lit (.bool true)], args := [d1, d2] }
  | _ => none }
def fnExactMulRowsRow : OpenClaim := { program := "ytopmalpkopnmhaa", sum := "36d58f73aca8435a79fd1126ce17e55e7a297ef9c3a81f146ae889758af3cf20", func := "loop.example/g00049/laws.FnExactMulRows", spec := "fnExactMulRows", apart := false }
def FnExactMulRowsSaid : Prop := fnExactMulRowsRow.holds Try.pinned (OpenSpec.ofChange fnExactMulRowsSpec)

/-- ITS FALSE NEIGHBOUR: 'it returns false'. Refute it at one input. -/
def fnExactMulRowsWrong : ChangeSpec := { name := "fnExactMulRows", fn := fun _ => fun
  | [d1, d2] => { results := [.lit (.bool false)], args := [d1, d2] }
  | _ => none }
def FnExactMulRowsWrongFalsely : Prop := fnExactMulRowsRow.holds Try.pinned (OpenSpec.ofChange fnExactMulRowsWrong)

/-- 'laws.FnExactInvRows': WHATEVER THE INPUT: true; the input reads as it did. -/
def fnExactInvRowsSpec : ChangeSpec := { name := "fnExactInvRows", fn := fun _ => fun
  | [d] => { results := [.lit (.bool true)], args := [d] }
  | _ => none }
def fnExactInvRowsRow : OpenClaim := { program := "ytopmalpkopnmhaa", sum := "36d58f73aca8435a79fd1126ce17e55e7a297ef9c3a81f146ae889758af3cf20", func := "loop.example/g00049/laws.FnExactInvRows", spec := "fnExactInvRows", apart := false }
def FnExactInvRowsSaid : Prop := fnExactInvRowsRow.holds Try.pinned (OpenSpec.ofChange fnExactInvRowsSpec)

/-- ITS FALSE NEIGHBOUR: 'it returns false'. Refute it at one input. -/
def fnExactInvRowsWrong : ChangeSpec := { name := "fnExactInvRows", fn := fun _ => fun
  | [d] => { results := [.lit (.bool false)], args := [d] }
  | _ => none }
def FnExactInvRowsWrongFalsely : Prop := fnExactInvRowsRow.holds Try.pinned (OpenSpec.ofChange fnExactInvRowsWrong)

/-- 'laws.FnExactSolveRows': WHATEVER THE INPUT: true; the input reads as it did. -/
def fnExactSolveRowsSpec : ChangeSpec := { name := "fnExactSolveRows", fn := fun _ => fun
  | [d1, d2] => { results := [.lit (.bool true)], args := [d1, d2] }
  | _ => none }
def fnExactSolveRowsRow : OpenClaim := { program := "ytopmalpkopnmhaa", sum := "36d58f73aca8435a79fd1126ce17e55e7a297ef9c3a81f146ae889758af3cf20", func := "loop.example/g00049/laws.FnExactSolveRows", spec := "fnExactSolveRows", apart := false }
def FnExactSolveRowsSaid : Prop := fnExactSolveRowsRow.holds Try.pinned (OpenSpec.ofChange fnExactSolveRowsSpec)

/-- ITS FALSE NEIGHBOUR: 'it returns false'. Refute it at one input. -/
def fnExactSolveRowsWrong : ChangeSpec := { name := "fnExactSolveRows", fn := fun _ => fun
  | [d1, d2] => { results := [.lit (.bool false)], args := [d1, d2] }
  | _ => none }
def FnExactSolveRowsWrongFalsely : Prop := fnExactSolveRowsRow.holds Try.pinned (OpenSpec.ofChange fnExactSolveRowsWrong)

/- THE SECOND FORM. 'bulk': how many values and letters a reading holds, each counted each time it is reached (what is shared counts as often as it is met; a slice's spare places count too). A statement '..UptoSaid' is the law's where the arguments, and the package variables that the reading takes, are together of bulk at most 1048576: NARROWER than '..Said'. Prove '..Said' where nothing that the law and all that it calls make is longer than what came in: it says more and counts as full. Else prove '..UptoSaid'. A law counts once. -/
mutual
def uptoBulk {H : Type} : DataW H → Nat
  | .lit (.string bytes) => bytes.length + 1
  | .lit _ => 1
  | .nil => 1
  | .ptr d => uptoBulk d + 1
  | .slice elems spare => uptoBulkAll elems + uptoBulkAll spare + 1
  | .agg parts => uptoBulkAll parts + 1
  | .iface _ d => uptoBulk d + 1
  | .map entries => uptoBulkEntries entries + 1
  | .held _ => 1
def uptoBulkAll {H : Type} : List (DataW H) → Nat
  | [] => 0
  | d :: r => uptoBulk d + uptoBulkAll r
def uptoBulkEntries {H : Type} : List (Lit × DataW H) → Nat
  | [] => 0
  | x :: r => uptoBulkEntry x + uptoBulkEntries r
def uptoBulkEntry {H : Type} : Lit × DataW H → Nat
  | (.string bytes, d) => bytes.length + uptoBulk d + 1
  | (_, d) => uptoBulk d + 1
 end
def uptoSmall : (H : Type) → List (DataW H) → Bool := fun _ ds => decide (uptoBulkAll ds ≤ 1048576)
def OpenSpec.upto (s : _root_.Go.ChangeSpec) : _root_.Go.OpenSpec := { _root_.Go.OpenSpec.ofChange s with cond := some uptoSmall }

/-- 'laws.FnExactAddMod', WHERE WHAT IT READS IS OF BULK AT MOST 1048576: true; the input reads as it did. -/
def fnExactAddModUptoRow : OpenClaim := { program := "ytopmalpkopnmhaa", sum := "36d58f73aca8435a79fd1126ce17e55e7a297ef9c3a81f146ae889758af3cf20", func := "loop.example/g00049/laws.FnExactAddMod", spec := "fnExactAddMod", apart := false, narrowed := true }
def FnExactAddModUptoSaid : Prop := fnExactAddModUptoRow.holds Try.pinned (OpenSpec.upto fnExactAddModSpec)

/-- 'laws.FnExactMulMod', WHERE WHAT IT READS IS OF BULK AT MOST 1048576: true; the input reads as it did. -/
def fnExactMulModUptoRow : OpenClaim := { program := "ytopmalpkopnmhaa", sum := "36d58f73aca8435a79fd1126ce17e55e7a297ef9c3a81f146ae889758af3cf20", func := "loop.example/g00049/laws.FnExactMulMod", spec := "fnExactMulMod", apart := false, narrowed := true }
def FnExactMulModUptoSaid : Prop := fnExactMulModUptoRow.holds Try.pinned (OpenSpec.upto fnExactMulModSpec)

/-- 'laws.FnExactPowMod', WHERE WHAT IT READS IS OF BULK AT MOST 1048576: true; the input reads as it did. -/
def fnExactPowModUptoRow : OpenClaim := { program := "ytopmalpkopnmhaa", sum := "36d58f73aca8435a79fd1126ce17e55e7a297ef9c3a81f146ae889758af3cf20", func := "loop.example/g00049/laws.FnExactPowMod", spec := "fnExactPowMod", apart := false, narrowed := true }
def FnExactPowModUptoSaid : Prop := fnExactPowModUptoRow.holds Try.pinned (OpenSpec.upto fnExactPowModSpec)

/-- 'laws.FnExactInvMod', WHERE WHAT IT READS IS OF BULK AT MOST 1048576: true; the input reads as it did. -/
def fnExactInvModUptoRow : OpenClaim := { program := "ytopmalpkopnmhaa", sum := "36d58f73aca8435a79fd1126ce17e55e7a297ef9c3a81f146ae889758af3cf20", func := "loop.example/g00049/laws.FnExactInvMod", spec := "fnExactInvMod", apart := false, narrowed := true }
def FnExactInvModUptoSaid : Prop := fnExactInvModUptoRow.holds Try.pinned (OpenSpec.upto fnExactInvModSpec)

/-- 'laws.FnExactRootMod', WHERE WHAT IT READS IS OF BULK AT MOST 1048576: true; the input reads as it did. -/
def fnExactRootModUptoRow : OpenClaim := { program := "ytopmalpkopnmhaa", sum := "36d58f73aca8435a79fd1126ce17e55e7a297ef9c3a81f146ae889758af3cf20", func := "loop.example/g00049/laws.FnExactRootMod", spec := "fnExactRootMod", apart := false, narrowed := true }
def FnExactRootModUptoSaid : Prop := fnExactRootModUptoRow.holds Try.pinned (OpenSpec.upto fnExactRootModSpec)

/-- 'laws.FnExactRowsFault', WHERE WHAT IT READS IS OF BULK AT MOST 1048576: true; the input reads as it did. -/
def fnExactRowsFaultUptoRow : OpenClaim := { program := "ytopmalpkopnmhaa", sum := "36d58f73aca8435a79fd1126ce17e55e7a297ef9c3a81f146ae889758af3cf20", func := "loop.example/g00049/laws.FnExactRowsFault", spec := "fnExactRowsFault", apart := false, narrowed := true }
def FnExactRowsFaultUptoSaid : Prop := fnExactRowsFaultUptoRow.holds Try.pinned (OpenSpec.upto fnExactRowsFaultSpec)

/-- 'laws.FnExactMulRows', WHERE WHAT IT READS IS OF BULK AT MOST 1048576: true; the input reads as it did. -/
def fnExactMulRowsUptoRow : OpenClaim := { program := "ytopmalpkopnmhaa", sum := "36d58f73aca8435a79fd1126ce17e55e7a297ef9c3a81f146ae889758af3cf20", func := "loop.example/g00049/laws.FnExactMulRows", spec := "fnExactMulRows", apart := false, narrowed := true }
def FnExactMulRowsUptoSaid : Prop := fnExactMulRowsUptoRow.holds Try.pinned (OpenSpec.upto fnExactMulRowsSpec)

/-- 'laws.FnExactInvRows', WHERE WHAT IT READS IS OF BULK AT MOST 1048576: true; the input reads as it did. -/
def fnExactInvRowsUptoRow : OpenClaim := { program := "ytopmalpkopnmhaa", sum := "36d58f73aca8435a79fd1126ce17e55e7a297ef9c3a81f146ae889758af3cf20", func := "loop.example/g00049/laws.FnExactInvRows", spec := "fnExactInvRows", apart := false, narrowed := true }
def FnExactInvRowsUptoSaid : Prop := fnExactInvRowsUptoRow.holds Try.pinned (OpenSpec.upto fnExactInvRowsSpec)

/-- 'laws.FnExactSolveRows', WHERE WHAT IT READS IS OF BULK AT MOST 1048576: true; the input reads as it did. -/
def fnExactSolveRowsUptoRow : OpenClaim := { program := "ytopmalpkopnmhaa", sum := "36d58f73aca8435a79fd1126ce17e55e7a297ef9c3a81f146ae889758af3cf20", func := "loop.example/g00049/laws.FnExactSolveRows", spec := "fnExactSolveRows", apart := false, narrowed := true }
def FnExactSolveRowsUptoSaid : Prop := fnExactSolveRowsUptoRow.holds Try.pinned (OpenSpec.upto fnExactSolveRowsSpec)

end Rows
end Go.Proofs.Ytopmalpkopnmhaa
