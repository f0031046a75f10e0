/-
  DERIVED. GIVEN WITH THE SEED: THE CARDS: each row of YtpkbpikdffbadaaDoorRows.lean that lists a variable, with what it lists TIED to the program's text (the seventh form; the later family's looks); each row that meets fmt, with fmt's text TOLD by the authors' own Lean function (tested against real Go, not proved from fmt's source: count such statements apart). THE CARD IS WHAT COUNTS. Prove the row's statement (the work); the ties are given (YtpkbpikdffbadaaDoorTie.lean); close each card by the builder's one call (the guide's Derived/Test/ToyasCard.lean, 'card_holds'). Laid BY PROGRAM, IN A SANDBOX (cutbox-door.mjs). By AI agents, Wed Nov 11 2026. No macro, syntax, notation, axiom, sorry.
-/
import Derived.Test.YtpkbpikdffbadaaDoorRows
import GoSem.ClaimSeven
namespace Go.Proofs.YtpkbpikdffbadaaDoor
namespace Rows

/-- THE TIED CARD OF 'laws.FnExactUnfoldWave'. -/
def fnExactUnfoldWaveCard : Claim7 := { stood := { row := fnExactUnfoldWaveRow, standIns := [], harness := (true, "fc71163cbf786fead92d9e07a0e3733e8b2de9f5011c35e8054452b289f6aee5"), looks := false }, kinds := [], alts := [], laidByText := true, laidKinds := [.data, .data], laidTests := true, laidLooks := .later }
def FnExactUnfoldWaveCardSaid : Prop := Claim7.holds Tryd.pinned (.plain (OpenSpec.ofChange fnExactUnfoldWaveSpec)) fnExactUnfoldWaveCard

/-- THE SECOND FORM's CARD OF 'laws.FnExactUnfoldWave'. -/
def fnExactUnfoldWaveUptoCard : Claim7 := { stood := { row := fnExactUnfoldWaveUptoRow, standIns := [], harness := (true, "fc71163cbf786fead92d9e07a0e3733e8b2de9f5011c35e8054452b289f6aee5"), looks := false }, kinds := [], alts := [], laidByText := true, laidKinds := [.data, .data], laidTests := true, laidLooks := .later }
def FnExactUnfoldWaveUptoCardSaid : Prop := Claim7.holds Tryd.pinned (.plain (OpenSpec.upto fnExactUnfoldWaveSpec)) fnExactUnfoldWaveUptoCard
end Rows
end Go.Proofs.YtpkbpikdffbadaaDoor
