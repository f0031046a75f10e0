/-
  No cell of these rows narrows 'for every input' (looked for: loops, veiled, ifaces, maps, wideKeys, modest, calm, conditions, laid).
  DERIVED. THE GIVEN ROWS OF THIS SEAT. 4 by the template 'for every input the law returns true; each argument reads behind the call as it read before'; 0 by the template 'total and deterministic' (their statements: YtegieakbpbaciaaTotals.lean).
  GIVEN WITH THE SEED: the statements are not yours to turn. If you find one false, say at which input.
  Laid BY PROGRAM, IN A SANDBOX (cutbox-rows.mjs): the forced cells as the released guide's own fill.sh prints them over the translation fe7728c8c7716633… (all of the seat's roots in one cut). By AI agents, Wed Nov 11 2026. No macro, syntax, notation, axiom, sorry.
-/
import Derived.Test.YtegieakbpbaciaaChecked
import GoSem.Claim
import GoSem.ClaimJoined
import GoSem.ClaimMapViews
import Derived.JoinedTies
import Derived.KernelRfl
namespace Go.Proofs.Ytegieakbpbaciaa
/- THE CELL 'sum', in the pinned program and in every row, IS THE sha256 OF THE DUMP (.gsa) THAT YtegieakbpbaciaaProg.lean LOADS. Nothing in Lean hashes anything: it is a label: what it is worth is what the hold of that sum in a sandbox is worth. -/
noncomputable def Try.pinned : Pinned := { name := "ytegieakbpbaciaa", sum := "fe7728c8c77166333308be31864a563213c50fa3e1b7963397017d112c24ba13", checked := Try.checked }
namespace Rows
def none {H : Type} : Left H := { results := [], args := [] }

/-- 'laws.FnExactPassWave': WHATEVER THE INPUT: true; the input reads as it did. -/
def fnExactPassWaveSpec : ChangeSpec := { name := "fnExactPassWave", fn := fun _ => fun
  | [d1, d2] => { results := [.lit (.bool true)], args := [d1, d2] }
  | _ => none }
def fnExactPassWaveRow : OpenClaim := { program := "ytegieakbpbaciaa", sum := "fe7728c8c77166333308be31864a563213c50fa3e1b7963397017d112c24ba13", func := "loop.example/g00049/laws.FnExactPassWave", spec := "fnExactPassWave", unfollowed := true, recurses := true, apart := false }
def FnExactPassWaveSaid : Prop := fnExactPassWaveRow.holds Try.pinned (OpenSpec.ofChange fnExactPassWaveSpec)

/-- ITS FALSE NEIGHBOUR: 'it returns false'. Refute it at one input. -/
def fnExactPassWaveWrong : ChangeSpec := { name := "fnExactPassWave", fn := fun _ => fun
  | [d1, d2] => { results := [.lit (.bool false)], args := [d1, d2] }
  | _ => none }
def FnExactPassWaveWrongFalsely : Prop := fnExactPassWaveRow.holds Try.pinned (OpenSpec.ofChange fnExactPassWaveWrong)

/-- 'laws.FnExactHologramOf': WHATEVER THE INPUT: true; the input reads as it did. -/
def fnExactHologramOfSpec : ChangeSpec := { name := "fnExactHologramOf", fn := fun _ => fun
  | [d1, d2] => { results := [.lit (.bool true)], args := [d1, d2] }
  | _ => none }
def fnExactHologramOfRow : OpenClaim := { program := "ytegieakbpbaciaa", sum := "fe7728c8c77166333308be31864a563213c50fa3e1b7963397017d112c24ba13", func := "loop.example/g00049/laws.FnExactHologramOf", spec := "fnExactHologramOf", unfollowed := true, recurses := true, apart := false }
def FnExactHologramOfSaid : Prop := fnExactHologramOfRow.holds Try.pinned (OpenSpec.ofChange fnExactHologramOfSpec)

/-- ITS FALSE NEIGHBOUR: 'it returns false'. Refute it at one input. -/
def fnExactHologramOfWrong : ChangeSpec := { name := "fnExactHologramOf", fn := fun _ => fun
  | [d1, d2] => { results := [.lit (.bool false)], args := [d1, d2] }
  | _ => none }
def FnExactHologramOfWrongFalsely : Prop := fnExactHologramOfRow.holds Try.pinned (OpenSpec.ofChange fnExactHologramOfWrong)

/-- 'laws.FnExactReadHologram': WHATEVER THE INPUT: true; the input reads as it did. -/
def fnExactReadHologramSpec : ChangeSpec := { name := "fnExactReadHologram", fn := fun _ => fun
  | [d1, d2] => { results := [.lit (.bool true)], args := [d1, d2] }
  | _ => none }
def fnExactReadHologramRow : OpenClaim := { program := "ytegieakbpbaciaa", sum := "fe7728c8c77166333308be31864a563213c50fa3e1b7963397017d112c24ba13", func := "loop.example/g00049/laws.FnExactReadHologram", spec := "fnExactReadHologram", unfollowed := true, recurses := true, apart := false }
def FnExactReadHologramSaid : Prop := fnExactReadHologramRow.holds Try.pinned (OpenSpec.ofChange fnExactReadHologramSpec)

/-- ITS FALSE NEIGHBOUR: 'it returns false'. Refute it at one input. -/
def fnExactReadHologramWrong : ChangeSpec := { name := "fnExactReadHologram", fn := fun _ => fun
  | [d1, d2] => { results := [.lit (.bool false)], args := [d1, d2] }
  | _ => none }
def FnExactReadHologramWrongFalsely : Prop := fnExactReadHologramRow.holds Try.pinned (OpenSpec.ofChange fnExactReadHologramWrong)

/-- 'laws.FnExactShiftWave': WHATEVER THE INPUT: true; the input reads as it did. -/
def fnExactShiftWaveSpec : ChangeSpec := { name := "fnExactShiftWave", fn := fun _ => fun
  | [d1, d2] => { results := [.lit (.bool true)], args := [d1, d2] }
  | _ => none }
def fnExactShiftWaveRow : OpenClaim := { program := "ytegieakbpbaciaa", sum := "fe7728c8c77166333308be31864a563213c50fa3e1b7963397017d112c24ba13", func := "loop.example/g00049/laws.FnExactShiftWave", spec := "fnExactShiftWave", apart := false }
def FnExactShiftWaveSaid : Prop := fnExactShiftWaveRow.holds Try.pinned (OpenSpec.ofChange fnExactShiftWaveSpec)

/-- ITS FALSE NEIGHBOUR: 'it returns false'. Refute it at one input. -/
def fnExactShiftWaveWrong : ChangeSpec := { name := "fnExactShiftWave", fn := fun _ => fun
  | [d1, d2] => { results := [.lit (.bool false)], args := [d1, d2] }
  | _ => none }
def FnExactShiftWaveWrongFalsely : Prop := fnExactShiftWaveRow.holds Try.pinned (OpenSpec.ofChange fnExactShiftWaveWrong)

/- THE SECOND FORM. 'bulk': how many values and letters a reading holds, each counted each time it is reached (what is shared counts as often as it is met; a slice's spare places count too). A statement '..UptoSaid' is the law's where the arguments, and the package variables that the reading takes, are together of bulk at most 1048576: NARROWER than '..Said'. Prove '..Said' where nothing that the law and all that it calls make is longer than what came in: it says more and counts as full. Else prove '..UptoSaid'. A law counts once. -/
mutual
def uptoBulk {H : Type} : DataW H → Nat
  | .lit (.string bytes) => bytes.length + 1
  | .lit _ => 1
  | .nil => 1
  | .ptr d => uptoBulk d + 1
  | .slice elems spare => uptoBulkAll elems + uptoBulkAll spare + 1
  | .agg parts => uptoBulkAll parts + 1
  | .iface _ d => uptoBulk d + 1
  | .map entries => uptoBulkEntries entries + 1
  | .held _ => 1
def uptoBulkAll {H : Type} : List (DataW H) → Nat
  | [] => 0
  | d :: r => uptoBulk d + uptoBulkAll r
def uptoBulkEntries {H : Type} : List (Lit × DataW H) → Nat
  | [] => 0
  | x :: r => uptoBulkEntry x + uptoBulkEntries r
def uptoBulkEntry {H : Type} : Lit × DataW H → Nat
  | (.string bytes, d) => bytes.length + uptoBulk d + 1
  | (_, d) => uptoBulk d + 1
 end
def uptoSmall : (H : Type) → List (DataW H) → Bool := fun _ ds => decide (uptoBulkAll ds ≤ 1048576)
def OpenSpec.upto (s : _root_.Go.ChangeSpec) : _root_.Go.OpenSpec := { _root_.Go.OpenSpec.ofChange s with cond := some uptoSmall }

/-- 'laws.FnExactPassWave', WHERE WHAT IT READS IS OF BULK AT MOST 1048576: true; the input reads as it did. -/
def fnExactPassWaveUptoRow : OpenClaim := { program := "ytegieakbpbaciaa", sum := "fe7728c8c77166333308be31864a563213c50fa3e1b7963397017d112c24ba13", func := "loop.example/g00049/laws.FnExactPassWave", spec := "fnExactPassWave", unfollowed := true, recurses := true, apart := false, narrowed := true }
def FnExactPassWaveUptoSaid : Prop := fnExactPassWaveUptoRow.holds Try.pinned (OpenSpec.upto fnExactPassWaveSpec)

/-- 'laws.FnExactHologramOf', WHERE WHAT IT READS IS OF BULK AT MOST 1048576: true; the input reads as it did. -/
def fnExactHologramOfUptoRow : OpenClaim := { program := "ytegieakbpbaciaa", sum := "fe7728c8c77166333308be31864a563213c50fa3e1b7963397017d112c24ba13", func := "loop.example/g00049/laws.FnExactHologramOf", spec := "fnExactHologramOf", unfollowed := true, recurses := true, apart := false, narrowed := true }
def FnExactHologramOfUptoSaid : Prop := fnExactHologramOfUptoRow.holds Try.pinned (OpenSpec.upto fnExactHologramOfSpec)

/-- 'laws.FnExactReadHologram', WHERE WHAT IT READS IS OF BULK AT MOST 1048576: true; the input reads as it did. -/
def fnExactReadHologramUptoRow : OpenClaim := { program := "ytegieakbpbaciaa", sum := "fe7728c8c77166333308be31864a563213c50fa3e1b7963397017d112c24ba13", func := "loop.example/g00049/laws.FnExactReadHologram", spec := "fnExactReadHologram", unfollowed := true, recurses := true, apart := false, narrowed := true }
def FnExactReadHologramUptoSaid : Prop := fnExactReadHologramUptoRow.holds Try.pinned (OpenSpec.upto fnExactReadHologramSpec)

/-- 'laws.FnExactShiftWave', WHERE WHAT IT READS IS OF BULK AT MOST 1048576: true; the input reads as it did. -/
def fnExactShiftWaveUptoRow : OpenClaim := { program := "ytegieakbpbaciaa", sum := "fe7728c8c77166333308be31864a563213c50fa3e1b7963397017d112c24ba13", func := "loop.example/g00049/laws.FnExactShiftWave", spec := "fnExactShiftWave", apart := false, narrowed := true }
def FnExactShiftWaveUptoSaid : Prop := fnExactShiftWaveUptoRow.holds Try.pinned (OpenSpec.upto fnExactShiftWaveSpec)

end Rows
end Go.Proofs.Ytegieakbpbaciaa
