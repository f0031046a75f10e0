/-
  No cell of these rows narrows 'for every input' (looked for: loops, veiled, ifaces, maps, wideKeys, modest, calm, conditions, laid).
  DERIVED. THE GIVEN ROWS OF THIS SEAT. 13 by the template 'for every input the law returns true; each argument reads behind the call as it read before'; 0 by the template 'total and deterministic' (their statements: YtloebnlmeplgbaaTotals.lean).
  GIVEN WITH THE SEED: the statements are not yours to turn. If you find one false, say at which input.
  Laid BY PROGRAM, IN A SANDBOX (cutbox-rows.mjs): the forced cells as the released guide's own fill.sh prints them over the translation 323ceef7185ce6b1… (all of the seat's roots in one cut). By AI agents, Wed Nov 11 2026. No macro, syntax, notation, axiom, sorry.
-/
import Derived.Test.YtloebnlmeplgbaaChecked
import GoSem.Claim
import GoSem.ClaimJoined
import GoSem.ClaimMapViews
import Derived.JoinedTies
import Derived.KernelRfl
namespace Go.Proofs.Ytloebnlmeplgbaa
/- THE CELL 'sum', in the pinned program and in every row, IS THE sha256 OF THE DUMP (.gsa) THAT YtloebnlmeplgbaaProg.lean LOADS. Nothing in Lean hashes anything: it is a label: what it is worth is what the hold of that sum in a sandbox is worth. -/
noncomputable def Try.pinned : Pinned := { name := "ytloebnlmeplgbaa", sum := "323ceef7185ce6b1fa9d0285bf49db2890d046c41364dbbc24be06a1d9b7854a", checked := Try.checked }
namespace Rows
def none {H : Type} : Left H := { results := [], args := [] }

/-- 'laws.FnPolar': WHATEVER THE INPUT: true; the input reads as it did. -/
def fnPolarSpec : ChangeSpec := { name := "fnPolar", fn := fun _ => fun
  | [d] => { results := [.lit (.bool true)], args := [d] }
  | _ => none }
def fnPolarRow : OpenClaim := { program := "ytloebnlmeplgbaa", sum := "323ceef7185ce6b1fa9d0285bf49db2890d046c41364dbbc24be06a1d9b7854a", func := "loop.example/g00049/laws.FnPolar", spec := "fnPolar", inPlace := ["math.sqrt"], apart := false }
def FnPolarSaid : Prop := fnPolarRow.holds Try.pinned (OpenSpec.ofChange fnPolarSpec)

/-- ITS FALSE NEIGHBOUR: 'it returns false'. Refute it at one input. -/
def fnPolarWrong : ChangeSpec := { name := "fnPolar", fn := fun _ => fun
  | [d] => { results := [.lit (.bool false)], args := [d] }
  | _ => none }
def FnPolarWrongFalsely : Prop := fnPolarRow.holds Try.pinned (OpenSpec.ofChange fnPolarWrong)

/-- 'laws.FnExactJonesFault': WHATEVER THE INPUT: true; the input reads as it did. -/
def fnExactJonesFaultSpec : ChangeSpec := { name := "fnExactJonesFault", fn := fun _ => fun
  | [d] => { results := [.lit (.bool true)], args := [d] }
  | _ => none }
def fnExactJonesFaultRow : OpenClaim := { program := "ytloebnlmeplgbaa", sum := "323ceef7185ce6b1fa9d0285bf49db2890d046c41364dbbc24be06a1d9b7854a", func := "loop.example/g00049/laws.FnExactJonesFault", spec := "fnExactJonesFault", apart := false }
def FnExactJonesFaultSaid : Prop := fnExactJonesFaultRow.holds Try.pinned (OpenSpec.ofChange fnExactJonesFaultSpec)

/-- ITS FALSE NEIGHBOUR: 'it returns false'. Refute it at one input. -/
def fnExactJonesFaultWrong : ChangeSpec := { name := "fnExactJonesFault", fn := fun _ => fun
  | [d] => { results := [.lit (.bool false)], args := [d] }
  | _ => none }
def FnExactJonesFaultWrongFalsely : Prop := fnExactJonesFaultRow.holds Try.pinned (OpenSpec.ofChange fnExactJonesFaultWrong)

/-- 'laws.FnExactPlateFault': WHATEVER THE INPUT: true; the input reads as it did. -/
def fnExactPlateFaultSpec : ChangeSpec := { name := "fnExactPlateFault", fn := fun _ => fun
  | [d] => { results := [.lit (.bool true)], args := [d] }
  | _ => none }
def fnExactPlateFaultRow : OpenClaim := { program := "ytloebnlmeplgbaa", sum := "323ceef7185ce6b1fa9d0285bf49db2890d046c41364dbbc24be06a1d9b7854a", func := "loop.example/g00049/laws.FnExactPlateFault", spec := "fnExactPlateFault", apart := false }
def FnExactPlateFaultSaid : Prop := fnExactPlateFaultRow.holds Try.pinned (OpenSpec.ofChange fnExactPlateFaultSpec)

/-- ITS FALSE NEIGHBOUR: 'it returns false'. Refute it at one input. -/
def fnExactPlateFaultWrong : ChangeSpec := { name := "fnExactPlateFault", fn := fun _ => fun
  | [d] => { results := [.lit (.bool false)], args := [d] }
  | _ => none }
def FnExactPlateFaultWrongFalsely : Prop := fnExactPlateFaultRow.holds Try.pinned (OpenSpec.ofChange fnExactPlateFaultWrong)

/-- 'laws.FnExactPlateOf': WHATEVER THE INPUT: true; the input reads as it did. -/
def fnExactPlateOfSpec : ChangeSpec := { name := "fnExactPlateOf", fn := fun _ => fun
  | [d] => { results := [.lit (.bool true)], args := [d] }
  | _ => none }
def fnExactPlateOfRow : OpenClaim := { program := "ytloebnlmeplgbaa", sum := "323ceef7185ce6b1fa9d0285bf49db2890d046c41364dbbc24be06a1d9b7854a", func := "loop.example/g00049/laws.FnExactPlateOf", spec := "fnExactPlateOf", unfollowed := true, recurses := true, apart := false }
def FnExactPlateOfSaid : Prop := fnExactPlateOfRow.holds Try.pinned (OpenSpec.ofChange fnExactPlateOfSpec)

/-- ITS FALSE NEIGHBOUR: 'it returns false'. Refute it at one input. -/
def fnExactPlateOfWrong : ChangeSpec := { name := "fnExactPlateOf", fn := fun _ => fun
  | [d] => { results := [.lit (.bool false)], args := [d] }
  | _ => none }
def FnExactPlateOfWrongFalsely : Prop := fnExactPlateOfRow.holds Try.pinned (OpenSpec.ofChange fnExactPlateOfWrong)

/-- 'laws.FnExactPassJones': WHATEVER THE INPUT: true; the input reads as it did. -/
def fnExactPassJonesSpec : ChangeSpec := { name := "fnExactPassJones", fn := fun _ => fun
  | [d1, d2] => { results := [.lit (.bool true)], args := [d1, d2] }
  | _ => none }
def fnExactPassJonesRow : OpenClaim := { program := "ytloebnlmeplgbaa", sum := "323ceef7185ce6b1fa9d0285bf49db2890d046c41364dbbc24be06a1d9b7854a", func := "loop.example/g00049/laws.FnExactPassJones", spec := "fnExactPassJones", apart := false }
def FnExactPassJonesSaid : Prop := fnExactPassJonesRow.holds Try.pinned (OpenSpec.ofChange fnExactPassJonesSpec)

/-- ITS FALSE NEIGHBOUR: 'it returns false'. Refute it at one input. -/
def fnExactPassJonesWrong : ChangeSpec := { name := "fnExactPassJones", fn := fun _ => fun
  | [d1, d2] => { results := [.lit (.bool false)], args := [d1, d2] }
  | _ => none }
def FnExactPassJonesWrongFalsely : Prop := fnExactPassJonesRow.holds Try.pinned (OpenSpec.ofChange fnExactPassJonesWrong)

/-- 'laws.FnExactChainJones': WHATEVER THE INPUT: true; the input reads as it did. -/
def fnExactChainJonesSpec : ChangeSpec := { name := "fnExactChainJones", fn := fun _ => fun
  | [d] => { results := [.lit (.bool true)], args := [d] }
  | _ => none }
def fnExactChainJonesRow : OpenClaim := { program := "ytloebnlmeplgbaa", sum := "323ceef7185ce6b1fa9d0285bf49db2890d046c41364dbbc24be06a1d9b7854a", func := "loop.example/g00049/laws.FnExactChainJones", spec := "fnExactChainJones", apart := false }
def FnExactChainJonesSaid : Prop := fnExactChainJonesRow.holds Try.pinned (OpenSpec.ofChange fnExactChainJonesSpec)

/-- ITS FALSE NEIGHBOUR: 'it returns false'. Refute it at one input. -/
def fnExactChainJonesWrong : ChangeSpec := { name := "fnExactChainJones", fn := fun _ => fun
  | [d] => { results := [.lit (.bool false)], args := [d] }
  | _ => none }
def FnExactChainJonesWrongFalsely : Prop := fnExactChainJonesRow.holds Try.pinned (OpenSpec.ofChange fnExactChainJonesWrong)

/-- 'laws.FnExactMirrorPlate': WHATEVER THE INPUT: true; the input reads as it did. -/
def fnExactMirrorPlateSpec : ChangeSpec := { name := "fnExactMirrorPlate", fn := fun _ => fun
  | [d] => { results := [.lit (.bool true)], args := [d] }
  | _ => none }
def fnExactMirrorPlateRow : OpenClaim := { program := "ytloebnlmeplgbaa", sum := "323ceef7185ce6b1fa9d0285bf49db2890d046c41364dbbc24be06a1d9b7854a", func := "loop.example/g00049/laws.FnExactMirrorPlate", spec := "fnExactMirrorPlate", apart := false }
def FnExactMirrorPlateSaid : Prop := fnExactMirrorPlateRow.holds Try.pinned (OpenSpec.ofChange fnExactMirrorPlateSpec)

/-- ITS FALSE NEIGHBOUR: 'it returns false'. Refute it at one input. -/
def fnExactMirrorPlateWrong : ChangeSpec := { name := "fnExactMirrorPlate", fn := fun _ => fun
  | [d] => { results := [.lit (.bool false)], args := [d] }
  | _ => none }
def FnExactMirrorPlateWrongFalsely : Prop := fnExactMirrorPlateRow.holds Try.pinned (OpenSpec.ofChange fnExactMirrorPlateWrong)

/-- 'laws.FnExactStokesOf': WHATEVER THE INPUT: true; the input reads as it did. -/
def fnExactStokesOfSpec : ChangeSpec := { name := "fnExactStokesOf", fn := fun _ => fun
  | [d] => { results := [.lit (.bool true)], args := [d] }
  | _ => none }
def fnExactStokesOfRow : OpenClaim := { program := "ytloebnlmeplgbaa", sum := "323ceef7185ce6b1fa9d0285bf49db2890d046c41364dbbc24be06a1d9b7854a", func := "loop.example/g00049/laws.FnExactStokesOf", spec := "fnExactStokesOf", apart := false }
def FnExactStokesOfSaid : Prop := fnExactStokesOfRow.holds Try.pinned (OpenSpec.ofChange fnExactStokesOfSpec)

/-- ITS FALSE NEIGHBOUR: 'it returns false'. Refute it at one input. -/
def fnExactStokesOfWrong : ChangeSpec := { name := "fnExactStokesOf", fn := fun _ => fun
  | [d] => { results := [.lit (.bool false)], args := [d] }
  | _ => none }
def FnExactStokesOfWrongFalsely : Prop := fnExactStokesOfRow.holds Try.pinned (OpenSpec.ofChange fnExactStokesOfWrong)

/-- 'laws.FnExactStokesFault': WHATEVER THE INPUT: true; the input reads as it did. -/
def fnExactStokesFaultSpec : ChangeSpec := { name := "fnExactStokesFault", fn := fun _ => fun
  | [d] => { results := [.lit (.bool true)], args := [d] }
  | _ => none }
def fnExactStokesFaultRow : OpenClaim := { program := "ytloebnlmeplgbaa", sum := "323ceef7185ce6b1fa9d0285bf49db2890d046c41364dbbc24be06a1d9b7854a", func := "loop.example/g00049/laws.FnExactStokesFault", spec := "fnExactStokesFault", apart := false }
def FnExactStokesFaultSaid : Prop := fnExactStokesFaultRow.holds Try.pinned (OpenSpec.ofChange fnExactStokesFaultSpec)

/-- ITS FALSE NEIGHBOUR: 'it returns false'. Refute it at one input. -/
def fnExactStokesFaultWrong : ChangeSpec := { name := "fnExactStokesFault", fn := fun _ => fun
  | [d] => { results := [.lit (.bool false)], args := [d] }
  | _ => none }
def FnExactStokesFaultWrongFalsely : Prop := fnExactStokesFaultRow.holds Try.pinned (OpenSpec.ofChange fnExactStokesFaultWrong)

/-- 'laws.FnExactMixStokes': WHATEVER THE INPUT: true; the input reads as it did. -/
def fnExactMixStokesSpec : ChangeSpec := { name := "fnExactMixStokes", fn := fun _ => fun
  | [d] => { results := [.lit (.bool true)], args := [d] }
  | _ => none }
def fnExactMixStokesRow : OpenClaim := { program := "ytloebnlmeplgbaa", sum := "323ceef7185ce6b1fa9d0285bf49db2890d046c41364dbbc24be06a1d9b7854a", func := "loop.example/g00049/laws.FnExactMixStokes", spec := "fnExactMixStokes", apart := false }
def FnExactMixStokesSaid : Prop := fnExactMixStokesRow.holds Try.pinned (OpenSpec.ofChange fnExactMixStokesSpec)

/-- ITS FALSE NEIGHBOUR: 'it returns false'. Refute it at one input. -/
def fnExactMixStokesWrong : ChangeSpec := { name := "fnExactMixStokes", fn := fun _ => fun
  | [d] => { results := [.lit (.bool false)], args := [d] }
  | _ => none }
def FnExactMixStokesWrongFalsely : Prop := fnExactMixStokesRow.holds Try.pinned (OpenSpec.ofChange fnExactMixStokesWrong)

/-- 'laws.FnExactTwiceMueller': WHATEVER THE INPUT: true; the input reads as it did. -/
def fnExactTwiceMuellerSpec : ChangeSpec := { name := "fnExactTwiceMueller", fn := fun _ => fun
  | [d] => { results := [.lit (.bool true)], args := [d] }
  | _ => none }
def fnExactTwiceMuellerRow : OpenClaim := { program := "ytloebnlmeplgbaa", sum := "323ceef7185ce6b1fa9d0285bf49db2890d046c41364dbbc24be06a1d9b7854a", func := "loop.example/g00049/laws.FnExactTwiceMueller", spec := "fnExactTwiceMueller", apart := false }
def FnExactTwiceMuellerSaid : Prop := fnExactTwiceMuellerRow.holds Try.pinned (OpenSpec.ofChange fnExactTwiceMuellerSpec)

/-- ITS FALSE NEIGHBOUR: 'it returns false'. Refute it at one input. -/
def fnExactTwiceMuellerWrong : ChangeSpec := { name := "fnExactTwiceMueller", fn := fun _ => fun
  | [d] => { results := [.lit (.bool false)], args := [d] }
  | _ => none }
def FnExactTwiceMuellerWrongFalsely : Prop := fnExactTwiceMuellerRow.holds Try.pinned (OpenSpec.ofChange fnExactTwiceMuellerWrong)

/-- 'laws.FnExactPassStokes': WHATEVER THE INPUT: true; the input reads as it did. -/
def fnExactPassStokesSpec : ChangeSpec := { name := "fnExactPassStokes", fn := fun _ => fun
  | [d1, d2] => { results := [.lit (.bool true)], args := [d1, d2] }
  | _ => none }
def fnExactPassStokesRow : OpenClaim := { program := "ytloebnlmeplgbaa", sum := "323ceef7185ce6b1fa9d0285bf49db2890d046c41364dbbc24be06a1d9b7854a", func := "loop.example/g00049/laws.FnExactPassStokes", spec := "fnExactPassStokes", apart := false }
def FnExactPassStokesSaid : Prop := fnExactPassStokesRow.holds Try.pinned (OpenSpec.ofChange fnExactPassStokesSpec)

/-- ITS FALSE NEIGHBOUR: 'it returns false'. Refute it at one input. -/
def fnExactPassStokesWrong : ChangeSpec := { name := "fnExactPassStokes", fn := fun _ => fun
  | [d1, d2] => { results := [.lit (.bool false)], args := [d1, d2] }
  | _ => none }
def FnExactPassStokesWrongFalsely : Prop := fnExactPassStokesRow.holds Try.pinned (OpenSpec.ofChange fnExactPassStokesWrong)

/-- 'laws.FnExactJonesFrom': WHATEVER THE INPUT: true; the input reads as it did. -/
def fnExactJonesFromSpec : ChangeSpec := { name := "fnExactJonesFrom", fn := fun _ => fun
  | [d] => { results := [.lit (.bool true)], args := [d] }
  | _ => none }
def fnExactJonesFromRow : OpenClaim := { program := "ytloebnlmeplgbaa", sum := "323ceef7185ce6b1fa9d0285bf49db2890d046c41364dbbc24be06a1d9b7854a", func := "loop.example/g00049/laws.FnExactJonesFrom", spec := "fnExactJonesFrom", inPlace := ["math.sqrt"], apart := false }
def FnExactJonesFromSaid : Prop := fnExactJonesFromRow.holds Try.pinned (OpenSpec.ofChange fnExactJonesFromSpec)

/-- ITS FALSE NEIGHBOUR: 'it returns false'. Refute it at one input. -/
def fnExactJonesFromWrong : ChangeSpec := { name := "fnExactJonesFrom", fn := fun _ => fun
  | [d] => { results := [.lit (.bool false)], args := [d] }
  | _ => none }
def FnExactJonesFromWrongFalsely : Prop := fnExactJonesFromRow.holds Try.pinned (OpenSpec.ofChange fnExactJonesFromWrong)

/- THE SECOND FORM. 'bulk': how many values and letters a reading holds, each counted each time it is reached (what is shared counts as often as it is met; a slice's spare places count too). A statement '..UptoSaid' is the law's where the arguments, and the package variables that the reading takes, are together of bulk at most 1048576: NARROWER than '..Said'. Prove '..Said' where nothing that the law and all that it calls make is longer than what came in: it says more and counts as full. Else prove '..UptoSaid'. A law counts once. -/
mutual
def uptoBulk {H : Type} : DataW H → Nat
  | .lit (.string bytes) => bytes.length + 1
  | .lit _ => 1
  | .nil => 1
  | .ptr d => uptoBulk d + 1
  | .slice elems spare => uptoBulkAll elems + uptoBulkAll spare + 1
  | .agg parts => uptoBulkAll parts + 1
  | .iface _ d => uptoBulk d + 1
  | .map entries => uptoBulkEntries entries + 1
  | .held _ => 1
def uptoBulkAll {H : Type} : List (DataW H) → Nat
  | [] => 0
  | d :: r => uptoBulk d + uptoBulkAll r
def uptoBulkEntries {H : Type} : List (Lit × DataW H) → Nat
  | [] => 0
  | x :: r => uptoBulkEntry x + uptoBulkEntries r
def uptoBulkEntry {H : Type} : Lit × DataW H → Nat
  | (.string bytes, d) => bytes.length + uptoBulk d + 1
  | (_, d) => uptoBulk d + 1
 end
def uptoSmall : (H : Type) → List (DataW H) → Bool := fun _ ds => decide (uptoBulkAll ds ≤ 1048576)
def OpenSpec.upto (s : _root_.Go.ChangeSpec) : _root_.Go.OpenSpec := { _root_.Go.OpenSpec.ofChange s with cond := some uptoSmall }

/-- 'laws.FnPolar', WHERE WHAT IT READS IS OF BULK AT MOST 1048576: true; the input reads as it did. -/
def fnPolarUptoRow : OpenClaim := { program := "ytloebnlmeplgbaa", sum := "323ceef7185ce6b1fa9d0285bf49db2890d046c41364dbbc24be06a1d9b7854a", func := "loop.example/g00049/laws.FnPolar", spec := "fnPolar", inPlace := ["math.sqrt"], apart := false, narrowed := true }
def FnPolarUptoSaid : Prop := fnPolarUptoRow.holds Try.pinned (OpenSpec.upto fnPolarSpec)

/-- 'laws.FnExactJonesFault', WHERE WHAT IT READS IS OF BULK AT MOST 1048576: true; the input reads as it did. -/
def fnExactJonesFaultUptoRow : OpenClaim := { program := "ytloebnlmeplgbaa", sum := "323ceef7185ce6b1fa9d0285bf49db2890d046c41364dbbc24be06a1d9b7854a", func := "loop.example/g00049/laws.FnExactJonesFault", spec := "fnExactJonesFault", apart := false, narrowed := true }
def FnExactJonesFaultUptoSaid : Prop := fnExactJonesFaultUptoRow.holds Try.pinned (OpenSpec.upto fnExactJonesFaultSpec)

/-- 'laws.FnExactPlateFault', WHERE WHAT IT READS IS OF BULK AT MOST 1048576: true; the input reads as it did. -/
def fnExactPlateFaultUptoRow : OpenClaim := { program := "ytloebnlmeplgbaa", sum := "323ceef7185ce6b1fa9d0285bf49db2890d046c41364dbbc24be06a1d9b7854a", func := "loop.example/g00049/laws.FnExactPlateFault", spec := "fnExactPlateFault", apart := false, narrowed := true }
def FnExactPlateFaultUptoSaid : Prop := fnExactPlateFaultUptoRow.holds Try.pinned (OpenSpec.upto fnExactPlateFaultSpec)

/-- 'laws.FnExactPlateOf', WHERE WHAT IT READS IS OF BULK AT MOST 1048576: true; the input reads as it did. -/
def fnExactPlateOfUptoRow : OpenClaim := { program := "ytloebnlmeplgbaa", sum := "323ceef7185ce6b1fa9d0285bf49db2890d046c41364dbbc24be06a1d9b7854a", func := "loop.example/g00049/laws.FnExactPlateOf", spec := "fnExactPlateOf", unfollowed := true, recurses := true, apart := false, narrowed := true }
def FnExactPlateOfUptoSaid : Prop := fnExactPlateOfUptoRow.holds Try.pinned (OpenSpec.upto fnExactPlateOfSpec)

/-- 'laws.FnExactPassJones', WHERE WHAT IT READS IS OF BULK AT MOST 1048576: true; the input reads as it did. -/
def fnExactPassJonesUptoRow : OpenClaim := { program := "ytloebnlmeplgbaa", sum := "323ceef7185ce6b1fa9d0285bf49db2890d046c41364dbbc24be06a1d9b7854a", func := "loop.example/g00049/laws.FnExactPassJones", spec := "fnExactPassJones", apart := false, narrowed := true }
def FnExactPassJonesUptoSaid : Prop := fnExactPassJonesUptoRow.holds Try.pinned (OpenSpec.upto fnExactPassJonesSpec)

/-- 'laws.FnExactChainJones', WHERE WHAT IT READS IS OF BULK AT MOST 1048576: true; the input reads as it did. -/
def fnExactChainJonesUptoRow : OpenClaim := { program := "ytloebnlmeplgbaa", sum := "323ceef7185ce6b1fa9d0285bf49db2890d046c41364dbbc24be06a1d9b7854a", func := "loop.example/g00049/laws.FnExactChainJones", spec := "fnExactChainJones", apart := false, narrowed := true }
def FnExactChainJonesUptoSaid : Prop := fnExactChainJonesUptoRow.holds Try.pinned (OpenSpec.upto fnExactChainJonesSpec)

/-- 'laws.FnExactMirrorPlate', WHERE WHAT IT READS IS OF BULK AT MOST 1048576: true; the input reads as it did. -/
def fnExactMirrorPlateUptoRow : OpenClaim := { program := "ytloebnlmeplgbaa", sum := "323ceef7185ce6b1fa9d0285bf49db2890d046c41364dbbc24be06a1d9b7854a", func := "loop.example/g00049/laws.FnExactMirrorPlate", spec := "fnExactMirrorPlate", apart := false, narrowed := true }
def FnExactMirrorPlateUptoSaid : Prop := fnExactMirrorPlateUptoRow.holds Try.pinned (OpenSpec.upto fnExactMirrorPlateSpec)

/-- 'laws.FnExactStokesOf', WHERE WHAT IT READS IS OF BULK AT MOST 1048576: true; the input reads as it did. -/
def fnExactStokesOfUptoRow : OpenClaim := { program := "ytloebnlmeplgbaa", sum := "323ceef7185ce6b1fa9d0285bf49db2890d046c41364dbbc24be06a1d9b7854a", func := "loop.example/g00049/laws.FnExactStokesOf", spec := "fnExactStokesOf", apart := false, narrowed := true }
def FnExactStokesOfUptoSaid : Prop := fnExactStokesOfUptoRow.holds Try.pinned (OpenSpec.upto fnExactStokesOfSpec)

/-- 'laws.FnExactStokesFault', WHERE WHAT IT READS IS OF BULK AT MOST 1048576: true; the input reads as it did. -/
def fnExactStokesFaultUptoRow : OpenClaim := { program := "ytloebnlmeplgbaa", sum := "323ceef7185ce6b1fa9d0285bf49db2890d046c41364dbbc24be06a1d9b7854a", func := "loop.example/g00049/laws.FnExactStokesFault", spec := "fnExactStokesFault", apart := false, narrowed := true }
def FnExactStokesFaultUptoSaid : Prop := fnExactStokesFaultUptoRow.holds Try.pinned (OpenSpec.upto fnExactStokesFaultSpec)

/-- 'laws.FnExactMixStokes', WHERE WHAT IT READS IS OF BULK AT MOST 1048576: true; the input reads as it did. -/
def fnExactMixStokesUptoRow : OpenClaim := { program := "ytloebnlmeplgbaa", sum := "323ceef7185ce6b1fa9d0285bf49db2890d046c41364dbbc24be06a1d9b7854a", func := "loop.example/g00049/laws.FnExactMixStokes", spec := "fnExactMixStokes", apart := false, narrowed := true }
def FnExactMixStokesUptoSaid : Prop := fnExactMixStokesUptoRow.holds Try.pinned (OpenSpec.upto fnExactMixStokesSpec)

/-- 'laws.FnExactTwiceMueller', WHERE WHAT IT READS IS OF BULK AT MOST 1048576: true; the input reads as it did. -/
def fnExactTwiceMuellerUptoRow : OpenClaim := { program := "ytloebnlmeplgbaa", sum := "323ceef7185ce6b1fa9d0285bf49db2890d046c41364dbbc24be06a1d9b7854a", func := "loop.example/g00049/laws.FnExactTwiceMueller", spec := "fnExactTwiceMueller", apart := false, narrowed := true }
def FnExactTwiceMuellerUptoSaid : Prop := fnExactTwiceMuellerUptoRow.holds Try.pinned (OpenSpec.upto fnExactTwiceMuellerSpec)

/-- 'laws.FnExactPassStokes', WHERE WHAT IT READS IS OF BULK AT MOST 1048576: true; the input reads as it did. -/
def fnExactPassStokesUptoRow : OpenClaim := { program := "ytloebnlmeplgbaa", sum := "323ceef7185ce6b1fa9d0285bf49db2890d046c41364dbbc24be06a1d9b7854a", func := "loop.example/g00049/laws.FnExactPassStokes", spec := "fnExactPassStokes", apart := false, narrowed := true }
def FnExactPassStokesUptoSaid : Prop := fnExactPassStokesUptoRow.holds Try.pinned (OpenSpec.upto fnExactPassStokesSpec)

/-- 'laws.FnExactJonesFrom', WHERE WHAT IT READS IS OF BULK AT MOST 1048576: true; the input reads as it did. -/
def fnExactJonesFromUptoRow : OpenClaim := { program := "ytloebnlmeplgbaa", sum := "323ceef7185ce6b1fa9d0285bf49db2890d046c41364dbbc24be06a1d9b7854a", func := "loop.example/g00049/laws.FnExactJonesFrom", spec := "fnExactJonesFrom", inPlace := ["math.sqrt"], apart := false, narrowed := true }
def FnExactJonesFromUptoSaid : Prop := fnExactJonesFromUptoRow.holds Try.pinned (OpenSpec.upto fnExactJonesFromSpec)

end Rows
end Go.Proofs.Ytloebnlmeplgbaa
