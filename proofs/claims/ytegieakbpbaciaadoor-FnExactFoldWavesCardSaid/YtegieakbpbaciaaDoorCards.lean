/-
  DERIVED. GIVEN WITH THE SEED: THE CARDS: each row of YtegieakbpbaciaaDoorRows.lean that lists a variable, with what it lists TIED to the program's text (the seventh form; the later family's looks); each row that meets fmt, with fmt's text TOLD by the authors' own Lean function (tested against real Go, not proved from fmt's source: count such statements apart). THE CARD IS WHAT COUNTS. Prove the row's statement (the work); the ties are given (YtegieakbpbaciaaDoorTie.lean); close each card by the builder's one call (the guide's Derived/Test/ToyasCard.lean, 'card_holds'). Laid BY PROGRAM, IN A SANDBOX (cutbox-door.mjs). By AI agents, Wed Nov 11 2026. No macro, syntax, notation, axiom, sorry.
-/
import Derived.Test.YtegieakbpbaciaaDoorRows
import GoSem.ClaimSeven
namespace Go.Proofs.YtegieakbpbaciaaDoor
namespace Rows

/-- THE TIED CARD OF 'laws.FnExactTransformWave'. -/
def fnExactTransformWaveCard : Claim7 := { stood := { row := fnExactTransformWaveRow, standIns := [], harness := (true, "f97e7e629eaa60a77dc123f27907e44ddabc0f2377c1c0853e2c92dfb4ae5d7d"), looks := false }, kinds := [], alts := [], laidByText := true, laidKinds := [.data, .data], laidTests := true, laidLooks := .later }
def FnExactTransformWaveCardSaid : Prop := Claim7.holds Tryd.pinned (.plain (OpenSpec.ofChange fnExactTransformWaveSpec)) fnExactTransformWaveCard

/-- THE TIED CARD OF 'laws.FnExactRestoreWave'. -/
def fnExactRestoreWaveCard : Claim7 := { stood := { row := fnExactRestoreWaveRow, standIns := [], harness := (true, "f97e7e629eaa60a77dc123f27907e44ddabc0f2377c1c0853e2c92dfb4ae5d7d"), looks := false }, kinds := [], alts := [], laidByText := true, laidKinds := [.data, .data], laidTests := true, laidLooks := .later }
def FnExactRestoreWaveCardSaid : Prop := Claim7.holds Tryd.pinned (.plain (OpenSpec.ofChange fnExactRestoreWaveSpec)) fnExactRestoreWaveCard

/-- THE TIED CARD OF 'laws.FnExactSpreadWave'. -/
def fnExactSpreadWaveCard : Claim7 := { stood := { row := fnExactSpreadWaveRow, standIns := [], harness := (true, "f97e7e629eaa60a77dc123f27907e44ddabc0f2377c1c0853e2c92dfb4ae5d7d"), looks := false }, kinds := [], alts := [], laidByText := true, laidKinds := [.data, .data], laidTests := true, laidLooks := .later }
def FnExactSpreadWaveCardSaid : Prop := Claim7.holds Tryd.pinned (.plain (OpenSpec.ofChange fnExactSpreadWaveSpec)) fnExactSpreadWaveCard

/-- THE TIED CARD OF 'laws.FnExactFoldWaves'. -/
def fnExactFoldWavesCard : Claim7 := { stood := { row := fnExactFoldWavesRow, standIns := [], harness := (true, "f97e7e629eaa60a77dc123f27907e44ddabc0f2377c1c0853e2c92dfb4ae5d7d"), looks := false }, kinds := [], alts := [], laidByText := true, laidKinds := [.data, .data], laidTests := true, laidLooks := .later }
def FnExactFoldWavesCardSaid : Prop := Claim7.holds Tryd.pinned (.plain (OpenSpec.ofChange fnExactFoldWavesSpec)) fnExactFoldWavesCard

/-- THE SECOND FORM's CARD OF 'laws.FnExactTransformWave'. -/
def fnExactTransformWaveUptoCard : Claim7 := { stood := { row := fnExactTransformWaveUptoRow, standIns := [], harness := (true, "f97e7e629eaa60a77dc123f27907e44ddabc0f2377c1c0853e2c92dfb4ae5d7d"), looks := false }, kinds := [], alts := [], laidByText := true, laidKinds := [.data, .data], laidTests := true, laidLooks := .later }
def FnExactTransformWaveUptoCardSaid : Prop := Claim7.holds Tryd.pinned (.plain (OpenSpec.upto fnExactTransformWaveSpec)) fnExactTransformWaveUptoCard

/-- THE SECOND FORM's CARD OF 'laws.FnExactRestoreWave'. -/
def fnExactRestoreWaveUptoCard : Claim7 := { stood := { row := fnExactRestoreWaveUptoRow, standIns := [], harness := (true, "f97e7e629eaa60a77dc123f27907e44ddabc0f2377c1c0853e2c92dfb4ae5d7d"), looks := false }, kinds := [], alts := [], laidByText := true, laidKinds := [.data, .data], laidTests := true, laidLooks := .later }
def FnExactRestoreWaveUptoCardSaid : Prop := Claim7.holds Tryd.pinned (.plain (OpenSpec.upto fnExactRestoreWaveSpec)) fnExactRestoreWaveUptoCard

/-- THE SECOND FORM's CARD OF 'laws.FnExactSpreadWave'. -/
def fnExactSpreadWaveUptoCard : Claim7 := { stood := { row := fnExactSpreadWaveUptoRow, standIns := [], harness := (true, "f97e7e629eaa60a77dc123f27907e44ddabc0f2377c1c0853e2c92dfb4ae5d7d"), looks := false }, kinds := [], alts := [], laidByText := true, laidKinds := [.data, .data], laidTests := true, laidLooks := .later }
def FnExactSpreadWaveUptoCardSaid : Prop := Claim7.holds Tryd.pinned (.plain (OpenSpec.upto fnExactSpreadWaveSpec)) fnExactSpreadWaveUptoCard

/-- THE SECOND FORM's CARD OF 'laws.FnExactFoldWaves'. -/
def fnExactFoldWavesUptoCard : Claim7 := { stood := { row := fnExactFoldWavesUptoRow, standIns := [], harness := (true, "f97e7e629eaa60a77dc123f27907e44ddabc0f2377c1c0853e2c92dfb4ae5d7d"), looks := false }, kinds := [], alts := [], laidByText := true, laidKinds := [.data, .data], laidTests := true, laidLooks := .later }
def FnExactFoldWavesUptoCardSaid : Prop := Claim7.holds Tryd.pinned (.plain (OpenSpec.upto fnExactFoldWavesSpec)) fnExactFoldWavesUptoCard
end Rows
end Go.Proofs.YtegieakbpbaciaaDoor
