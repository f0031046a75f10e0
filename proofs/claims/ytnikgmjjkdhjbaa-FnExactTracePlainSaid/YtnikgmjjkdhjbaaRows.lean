/-
  No cell of these rows narrows 'for every input' (looked for: loops, veiled, ifaces, maps, wideKeys, modest, calm, conditions, laid).
  DERIVED. THE GIVEN ROWS OF THIS SEAT. 10 by the template 'for every input the law returns true; each argument reads behind the call as it read before'; 0 by the template 'total and deterministic' (their statements: YtnikgmjjkdhjbaaTotals.lean).
  GIVEN WITH THE SEED: the statements are not yours to turn. If you find one false, say at which input.
  Laid BY PROGRAM, IN A SANDBOX (cutbox-rows.mjs): the forced cells as the released guide's own fill.sh prints them over the translation 24ca03da5155e539… (all of the seat's roots in one cut). By AI agents, Wed Nov 11 2026. No macro, syntax, notation, axiom, sorry.
-/
import Derived.Test.YtnikgmjjkdhjbaaChecked
import GoSem.Claim
import GoSem.ClaimJoined
import GoSem.ClaimMapViews
import Derived.JoinedTies
import Derived.KernelRfl
namespace Go.Proofs.Ytnikgmjjkdhjbaa
/- THE CELL 'sum', in the pinned program and in every row, IS THE sha256 OF THE DUMP (.gsa) THAT YtnikgmjjkdhjbaaProg.lean LOADS. Nothing in Lean hashes anything: it is a label: what it is worth is what the hold of that sum in a sandbox is worth. -/
noncomputable def Try.pinned : Pinned := { name := "ytnikgmjjkdhjbaa", sum := "24ca03da5155e5395db8a22b377aace77d6ea6e7399a446f17e4e15f77963a8b", checked := Try.checked }
namespace Rows
def none {H : Type} : Left H := { results := [], args := [] }

/-- 'laws.FnImages': WHATEVER THE INPUT: true; the input reads as it did. -/
def fnImagesSpec : ChangeSpec := { name := "fnImages", fn := fun _ => fun
  | [d] => { results := [.lit (.bool true)], args := [d] }
  | _ => none }
def fnImagesRow : OpenClaim := { program := "ytnikgmjjkdhjbaa", sum := "24ca03da5155e5395db8a22b377aace77d6ea6e7399a446f17e4e15f77963a8b", func := "loop.example/g00049/laws.FnImages", spec := "fnImages", apart := false }
def FnImagesSaid : Prop := fnImagesRow.holds Try.pinned (OpenSpec.ofChange fnImagesSpec)

/-- ITS FALSE NEIGHBOUR: 'it returns false'. Refute it at one input. -/
def fnImagesWrong : ChangeSpec := { name := "fnImages", fn := fun _ => fun
  | [d] => { results := [.lit (.bool false)], args := [d] }
  | _ => none }
def FnImagesWrongFalsely : Prop := fnImagesRow.holds Try.pinned (OpenSpec.ofChange fnImagesWrong)

/-- 'laws.FnExactPartFault': WHATEVER THE INPUT: true; the input reads as it did. -/
def fnExactPartFaultSpec : ChangeSpec := { name := "fnExactPartFault", fn := fun _ => fun
  | [d] => { results := [.lit (.bool true)], args := [d] }
  | _ => none }
def fnExactPartFaultRow : OpenClaim := { program := "ytnikgmjjkdhjbaa", sum := "24ca03da5155e5395db8a22b377aace77d6ea6e7399a446f17e4e15f77963a8b", func := "loop.example/g00049/laws.FnExactPartFault", spec := "fnExactPartFault", apart := false }
def FnExactPartFaultSaid : Prop := fnExactPartFaultRow.holds Try.pinned (OpenSpec.ofChange fnExactPartFaultSpec)

/-- ITS FALSE NEIGHBOUR: 'it returns false'. Refute it at one input. -/
def fnExactPartFaultWrong : ChangeSpec := { name := "fnExactPartFault", fn := fun _ => fun
  | [d] => { results := [.lit (.bool false)], args := [d] }
  | _ => none }
def FnExactPartFaultWrongFalsely : Prop := fnExactPartFaultRow.holds Try.pinned (OpenSpec.ofChange fnExactPartFaultWrong)

/-- 'laws.FnExactMatrixOf': WHATEVER THE INPUT: true; the input reads as it did. -/
def fnExactMatrixOfSpec : ChangeSpec := { name := "fnExactMatrixOf", fn := fun _ => fun
  | [d] => { results := [.lit (.bool true)], args := [d] }
  | _ => none }
def fnExactMatrixOfRow : OpenClaim := { program := "ytnikgmjjkdhjbaa", sum := "24ca03da5155e5395db8a22b377aace77d6ea6e7399a446f17e4e15f77963a8b", func := "loop.example/g00049/laws.FnExactMatrixOf", spec := "fnExactMatrixOf", unfollowed := true, recurses := true, apart := false }
def FnExactMatrixOfSaid : Prop := fnExactMatrixOfRow.holds Try.pinned (OpenSpec.ofChange fnExactMatrixOfSpec)

/-- ITS FALSE NEIGHBOUR: 'it returns false'. Refute it at one input. -/
def fnExactMatrixOfWrong : ChangeSpec := { name := "fnExactMatrixOf", fn := fun _ => fun
  | [d] => { results := [.lit (.bool false)], args := [d] }
  | _ => none }
def FnExactMatrixOfWrongFalsely : Prop := fnExactMatrixOfRow.holds Try.pinned (OpenSpec.ofChange fnExactMatrixOfWrong)

/-- 'laws.FnExactJoinMatrix': WHATEVER THE INPUT: true; the input reads as it did. -/
def fnExactJoinMatrixSpec : ChangeSpec := { name := "fnExactJoinMatrix", fn := fun _ => fun
  | [d1, d2] => { results := [.lit (.bool true)], args := [d1, d2] }
  | _ => none }
def fnExactJoinMatrixRow : OpenClaim := { program := "ytnikgmjjkdhjbaa", sum := "24ca03da5155e5395db8a22b377aace77d6ea6e7399a446f17e4e15f77963a8b", func := "loop.example/g00049/laws.FnExactJoinMatrix", spec := "fnExactJoinMatrix", apart := false }
def FnExactJoinMatrixSaid : Prop := fnExactJoinMatrixRow.holds Try.pinned (OpenSpec.ofChange fnExactJoinMatrixSpec)

/-- ITS FALSE NEIGHBOUR: 'it returns false'. Refute it at one input. -/
def fnExactJoinMatrixWrong : ChangeSpec := { name := "fnExactJoinMatrix", fn := fun _ => fun
  | [d1, d2] => { results := [.lit (.bool false)], args := [d1, d2] }
  | _ => none }
def FnExactJoinMatrixWrongFalsely : Prop := fnExactJoinMatrixRow.holds Try.pinned (OpenSpec.ofChange fnExactJoinMatrixWrong)

/-- 'laws.FnExactSwapMatrix': WHATEVER THE INPUT: true; the input reads as it did. -/
def fnExactSwapMatrixSpec : ChangeSpec := { name := "fnExactSwapMatrix", fn := fun _ => fun
  | [d] => { results := [.lit (.bool true)], args := [d] }
  | _ => none }
def fnExactSwapMatrixRow : OpenClaim := { program := "ytnikgmjjkdhjbaa", sum := "24ca03da5155e5395db8a22b377aace77d6ea6e7399a446f17e4e15f77963a8b", func := "loop.example/g00049/laws.FnExactSwapMatrix", spec := "fnExactSwapMatrix", apart := false }
def FnExactSwapMatrixSaid : Prop := fnExactSwapMatrixRow.holds Try.pinned (OpenSpec.ofChange fnExactSwapMatrixSpec)

/-- ITS FALSE NEIGHBOUR: 'it returns false'. Refute it at one input. -/
def fnExactSwapMatrixWrong : ChangeSpec := { name := "fnExactSwapMatrix", fn := fun _ => fun
  | [d] => { results := [.lit (.bool false)], args := [d] }
  | _ => none }
def FnExactSwapMatrixWrongFalsely : Prop := fnExactSwapMatrixRow.holds Try.pinned (OpenSpec.ofChange fnExactSwapMatrixWrong)

/-- 'laws.FnExactDetMatrix': WHATEVER THE INPUT: true; the input reads as it did. -/
def fnExactDetMatrixSpec : ChangeSpec := { name := "fnExactDetMatrix", fn := fun _ => fun
  | [d] => { results := [.lit (.bool true)], args := [d] }
  | _ => none }
def fnExactDetMatrixRow : OpenClaim := { program := "ytnikgmjjkdhjbaa", sum := "24ca03da5155e5395db8a22b377aace77d6ea6e7399a446f17e4e15f77963a8b", func := "loop.example/g00049/laws.FnExactDetMatrix", spec := "fnExactDetMatrix", apart := false }
def FnExactDetMatrixSaid : Prop := fnExactDetMatrixRow.holds Try.pinned (OpenSpec.ofChange fnExactDetMatrixSpec)

/-- ITS FALSE NEIGHBOUR: 'it returns false'. Refute it at one input. -/
def fnExactDetMatrixWrong : ChangeSpec := { name := "fnExactDetMatrix", fn := fun _ => fun
  | [d] => { results := [.lit (.bool false)], args := [d] }
  | _ => none }
def FnExactDetMatrixWrongFalsely : Prop := fnExactDetMatrixRow.holds Try.pinned (OpenSpec.ofChange fnExactDetMatrixWrong)

/-- 'laws.FnExactTracePlain': WHATEVER THE INPUT: true; the input reads as it did. -/
def fnExactTracePlainSpec : ChangeSpec := { name := "fnExactTracePlain", fn := fun _ => fun
  | [d1, d2] => { results := [.lit (.bool true)], args := [d1, d2] }
  | _ => none }
def fnExactTracePlainRow : OpenClaim := { program := "ytnikgmjjkdhjbaa", sum := "24ca03da5155e5395db8a22b377aace77d6ea6e7399a446f17e4e15f77963a8b", func := "loop.example/g00049/laws.FnExactTracePlain", spec := "fnExactTracePlain", unfollowed := true, recurses := true, apart := false }
def FnExactTracePlainSaid : Prop := fnExactTracePlainRow.holds Try.pinned (OpenSpec.ofChange fnExactTracePlainSpec)

/-- ITS FALSE NEIGHBOUR: 'it returns false'. Refute it at one input. -/
def fnExactTracePlainWrong : ChangeSpec := { name := "fnExactTracePlain", fn := fun _ => fun
  | [d1, d2] => { results := [.lit (.bool false)], args := [d1, d2] }
  | _ => none }
def FnExactTracePlainWrongFalsely : Prop := fnExactTracePlainRow.holds Try.pinned (OpenSpec.ofChange fnExactTracePlainWrong)

/-- 'laws.FnExactInvariantOf': WHATEVER THE INPUT: true; the input reads as it did. -/
def fnExactInvariantOfSpec : ChangeSpec := { name := "fnExactInvariantOf", fn := fun _ => fun
  | [d1, d2] => { results := [.lit (.bool true)], args := [d1, d2] }
  | _ => none }
def fnExactInvariantOfRow : OpenClaim := { program := "ytnikgmjjkdhjbaa", sum := "24ca03da5155e5395db8a22b377aace77d6ea6e7399a446f17e4e15f77963a8b", func := "loop.example/g00049/laws.FnExactInvariantOf", spec := "fnExactInvariantOf", apart := false }
def FnExactInvariantOfSaid : Prop := fnExactInvariantOfRow.holds Try.pinned (OpenSpec.ofChange fnExactInvariantOfSpec)

/-- ITS FALSE NEIGHBOUR: 'it returns false'. Refute it at one input. -/
def fnExactInvariantOfWrong : ChangeSpec := { name := "fnExactInvariantOf", fn := fun _ => fun
  | [d1, d2] => { results := [.lit (.bool false)], args := [d1, d2] }
  | _ => none }
def FnExactInvariantOfWrongFalsely : Prop := fnExactInvariantOfRow.holds Try.pinned (OpenSpec.ofChange fnExactInvariantOfWrong)

/-- 'laws.FnExactFoci': WHATEVER THE INPUT: true; the input reads as it did. -/
def fnExactFociSpec : ChangeSpec := { name := "fnExactFoci", fn := fun _ => fun
  | [d] => { results := [.lit (.bool true)], args := [d] }
  | _ => none }
def fnExactFociRow : OpenClaim := { program := "ytnikgmjjkdhjbaa", sum := "24ca03da5155e5395db8a22b377aace77d6ea6e7399a446f17e4e15f77963a8b", func := "loop.example/g00049/laws.FnExactFoci", spec := "fnExactFoci", apart := false }
def FnExactFociSaid : Prop := fnExactFociRow.holds Try.pinned (OpenSpec.ofChange fnExactFociSpec)

/-- ITS FALSE NEIGHBOUR: 'it returns false'. Refute it at one input. -/
def fnExactFociWrong : ChangeSpec := { name := "fnExactFoci", fn := fun _ => fun
  | [d] => { results := [.lit (.bool false)], args := [d] }
  | _ => none }
def FnExactFociWrongFalsely : Prop := fnExactFociRow.holds Try.pinned (OpenSpec.ofChange fnExactFociWrong)

/-- 'laws.FnExactImageOf': WHATEVER THE INPUT: true; the input reads as it did. -/
def fnExactImageOfSpec : ChangeSpec := { name := "fnExactImageOf", fn := fun _ => fun
  | [d1, d2] => { results := [.lit (.bool true)], args := [d1, d2] }
  | _ => none }
def fnExactImageOfRow : OpenClaim := { program := "ytnikgmjjkdhjbaa", sum := "24ca03da5155e5395db8a22b377aace77d6ea6e7399a446f17e4e15f77963a8b", func := "loop.example/g00049/laws.FnExactImageOf", spec := "fnExactImageOf", apart := false }
def FnExactImageOfSaid : Prop := fnExactImageOfRow.holds Try.pinned (OpenSpec.ofChange fnExactImageOfSpec)

/-- ITS FALSE NEIGHBOUR: 'it returns false'. Refute it at one input. -/
def fnExactImageOfWrong : ChangeSpec := { name := "fnExactImageOf", fn := fun _ => fun
  | [d1, d2] => { results := [.lit (.bool false)], args := [d1, d2] }
  | _ => none }
def FnExactImageOfWrongFalsely : Prop := fnExactImageOfRow.holds Try.pinned (OpenSpec.ofChange fnExactImageOfWrong)

/- THE SECOND FORM. 'bulk': how many values and letters a reading holds, each counted each time it is reached (what is shared counts as often as it is met; a slice's spare places count too). A statement '..UptoSaid' is the law's where the arguments, and the package variables that the reading takes, are together of bulk at most 1048576: NARROWER than '..Said'. Prove '..Said' where nothing that the law and all that it calls make is longer than what came in: it says more and counts as full. Else prove '..UptoSaid'. A law counts once. -/
mutual
def uptoBulk {H : Type} : DataW H → Nat
  | .lit (.string bytes) => bytes.length + 1
  | .lit _ => 1
  | .nil => 1
  | .ptr d => uptoBulk d + 1
  | .slice elems spare => uptoBulkAll elems + uptoBulkAll spare + 1
  | .agg parts => uptoBulkAll parts + 1
  | .iface _ d => uptoBulk d + 1
  | .map entries => uptoBulkEntries entries + 1
  | .held _ => 1
def uptoBulkAll {H : Type} : List (DataW H) → Nat
  | [] => 0
  | d :: r => uptoBulk d + uptoBulkAll r
def uptoBulkEntries {H : Type} : List (Lit × DataW H) → Nat
  | [] => 0
  | x :: r => uptoBulkEntry x + uptoBulkEntries r
def uptoBulkEntry {H : Type} : Lit × DataW H → Nat
  | (.string bytes, d) => bytes.length + uptoBulk d + 1
  | (_, d) => uptoBulk d + 1
 end
def uptoSmall : (H : Type) → List (DataW H) → Bool := fun _ ds => decide (uptoBulkAll ds ≤ 1048576)
def OpenSpec.upto (s : _root_.Go.ChangeSpec) : _root_.Go.OpenSpec := { _root_.Go.OpenSpec.ofChange s with cond := some uptoSmall }

/-- 'laws.FnImages', WHERE WHAT IT READS IS OF BULK AT MOST 1048576: true; the input reads as it did. -/
def fnImagesUptoRow : OpenClaim := { program := "ytnikgmjjkdhjbaa", sum := "24ca03da5155e5395db8a22b377aace77d6ea6e7399a446f17e4e15f77963a8b", func := "loop.example/g00049/laws.FnImages", spec := "fnImages", apart := false, narrowed := true }
def FnImagesUptoSaid : Prop := fnImagesUptoRow.holds Try.pinned (OpenSpec.upto fnImagesSpec)

/-- 'laws.FnExactPartFault', WHERE WHAT IT READS IS OF BULK AT MOST 1048576: true; the input reads as it did. -/
def fnExactPartFaultUptoRow : OpenClaim := { program := "ytnikgmjjkdhjbaa", sum := "24ca03da5155e5395db8a22b377aace77d6ea6e7399a446f17e4e15f77963a8b", func := "loop.example/g00049/laws.FnExactPartFault", spec := "fnExactPartFault", apart := false, narrowed := true }
def FnExactPartFaultUptoSaid : Prop := fnExactPartFaultUptoRow.holds Try.pinned (OpenSpec.upto fnExactPartFaultSpec)

/-- 'laws.FnExactMatrixOf', WHERE WHAT IT READS IS OF BULK AT MOST 1048576: true; the input reads as it did. -/
def fnExactMatrixOfUptoRow : OpenClaim := { program := "ytnikgmjjkdhjbaa", sum := "24ca03da5155e5395db8a22b377aace77d6ea6e7399a446f17e4e15f77963a8b", func := "loop.example/g00049/laws.FnExactMatrixOf", spec := "fnExactMatrixOf", unfollowed := true, recurses := true, apart := false, narrowed := true }
def FnExactMatrixOfUptoSaid : Prop := fnExactMatrixOfUptoRow.holds Try.pinned (OpenSpec.upto fnExactMatrixOfSpec)

/-- 'laws.FnExactJoinMatrix', WHERE WHAT IT READS IS OF BULK AT MOST 1048576: true; the input reads as it did. -/
def fnExactJoinMatrixUptoRow : OpenClaim := { program := "ytnikgmjjkdhjbaa", sum := "24ca03da5155e5395db8a22b377aace77d6ea6e7399a446f17e4e15f77963a8b", func := "loop.example/g00049/laws.FnExactJoinMatrix", spec := "fnExactJoinMatrix", apart := false, narrowed := true }
def FnExactJoinMatrixUptoSaid : Prop := fnExactJoinMatrixUptoRow.holds Try.pinned (OpenSpec.upto fnExactJoinMatrixSpec)

/-- 'laws.FnExactSwapMatrix', WHERE WHAT IT READS IS OF BULK AT MOST 1048576: true; the input reads as it did. -/
def fnExactSwapMatrixUptoRow : OpenClaim := { program := "ytnikgmjjkdhjbaa", sum := "24ca03da5155e5395db8a22b377aace77d6ea6e7399a446f17e4e15f77963a8b", func := "loop.example/g00049/laws.FnExactSwapMatrix", spec := "fnExactSwapMatrix", apart := false, narrowed := true }
def FnExactSwapMatrixUptoSaid : Prop := fnExactSwapMatrixUptoRow.holds Try.pinned (OpenSpec.upto fnExactSwapMatrixSpec)

/-- 'laws.FnExactDetMatrix', WHERE WHAT IT READS IS OF BULK AT MOST 1048576: true; the input reads as it did. -/
def fnExactDetMatrixUptoRow : OpenClaim := { program := "ytnikgmjjkdhjbaa", sum := "24ca03da5155e5395db8a22b377aace77d6ea6e7399a446f17e4e15f77963a8b", func := "loop.example/g00049/laws.FnExactDetMatrix", spec := "fnExactDetMatrix", apart := false, narrowed := true }
def FnExactDetMatrixUptoSaid : Prop := fnExactDetMatrixUptoRow.holds Try.pinned (OpenSpec.upto fnExactDetMatrixSpec)

/-- 'laws.FnExactTracePlain', WHERE WHAT IT READS IS OF BULK AT MOST 1048576: true; the input reads as it did. -/
def fnExactTracePlainUptoRow : OpenClaim := { program := "ytnikgmjjkdhjbaa", sum := "24ca03da5155e5395db8a22b377aace77d6ea6e7399a446f17e4e15f77963a8b", func := "loop.example/g00049/laws.FnExactTracePlain", spec := "fnExactTracePlain", unfollowed := true, recurses := true, apart := false, narrowed := true }
def FnExactTracePlainUptoSaid : Prop := fnExactTracePlainUptoRow.holds Try.pinned (OpenSpec.upto fnExactTracePlainSpec)

/-- 'laws.FnExactInvariantOf', WHERE WHAT IT READS IS OF BULK AT MOST 1048576: true; the input reads as it did. -/
def fnExactInvariantOfUptoRow : OpenClaim := { program := "ytnikgmjjkdhjbaa", sum := "24ca03da5155e5395db8a22b377aace77d6ea6e7399a446f17e4e15f77963a8b", func := "loop.example/g00049/laws.FnExactInvariantOf", spec := "fnExactInvariantOf", apart := false, narrowed := true }
def FnExactInvariantOfUptoSaid : Prop := fnExactInvariantOfUptoRow.holds Try.pinned (OpenSpec.upto fnExactInvariantOfSpec)

/-- 'laws.FnExactFoci', WHERE WHAT IT READS IS OF BULK AT MOST 1048576: true; the input reads as it did. -/
def fnExactFociUptoRow : OpenClaim := { program := "ytnikgmjjkdhjbaa", sum := "24ca03da5155e5395db8a22b377aace77d6ea6e7399a446f17e4e15f77963a8b", func := "loop.example/g00049/laws.FnExactFoci", spec := "fnExactFoci", apart := false, narrowed := true }
def FnExactFociUptoSaid : Prop := fnExactFociUptoRow.holds Try.pinned (OpenSpec.upto fnExactFociSpec)

/-- 'laws.FnExactImageOf', WHERE WHAT IT READS IS OF BULK AT MOST 1048576: true; the input reads as it did. -/
def fnExactImageOfUptoRow : OpenClaim := { program := "ytnikgmjjkdhjbaa", sum := "24ca03da5155e5395db8a22b377aace77d6ea6e7399a446f17e4e15f77963a8b", func := "loop.example/g00049/laws.FnExactImageOf", spec := "fnExactImageOf", apart := false, narrowed := true }
def FnExactImageOfUptoSaid : Prop := fnExactImageOfUptoRow.holds Try.pinned (OpenSpec.upto fnExactImageOfSpec)

end Rows
end Go.Proofs.Ytnikgmjjkdhjbaa
