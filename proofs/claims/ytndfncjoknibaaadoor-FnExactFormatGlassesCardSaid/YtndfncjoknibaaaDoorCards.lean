/-
  DERIVED. GIVEN WITH THE SEED: THE CARDS: each row of YtndfncjoknibaaaDoorRows.lean that lists a variable, with what it lists TIED to the program's text (the seventh form; the later family's looks); each row that meets fmt, with fmt's text TOLD by the authors' own Lean function (tested against real Go, not proved from fmt's source: count such statements apart). THE CARD IS WHAT COUNTS. Prove the row's statement (the work); the ties are given (YtndfncjoknibaaaDoorTie.lean); close each card by the builder's one call (the guide's Derived/Test/ToyasCard.lean, 'card_holds'). Laid BY PROGRAM, IN A SANDBOX (cutbox-door.mjs). By AI agents, Wed Nov 11 2026. No macro, syntax, notation, axiom, sorry.
-/
import Derived.Test.YtndfncjoknibaaaDoorRows
import GoSem.ClaimSeven
namespace Go.Proofs.YtndfncjoknibaaaDoor
namespace Rows

/-- THE TIED CARD OF 'laws.FnExactGlassFault'. -/
def fnExactGlassFaultCard : Claim7 := { stood := { row := fnExactGlassFaultRow, standIns := [], harness := (true, "da10ff261ccb0d50757e23721bf26fcbb1cf6d673d685000ff3250fb22adc995"), looks := false }, kinds := [], alts := [], laidByText := true, laidKinds := [.data], laidTests := true, laidLooks := .later }
def FnExactGlassFaultCardSaid : Prop := Claim7.holds Tryd.pinned (.plain (OpenSpec.ofChange fnExactGlassFaultSpec)) fnExactGlassFaultCard

/-- THE TIED CARD OF 'laws.FnExactIndexAt'. -/
def fnExactIndexAtCard : Claim7 := { stood := { row := fnExactIndexAtRow, standIns := [], harness := (true, "da10ff261ccb0d50757e23721bf26fcbb1cf6d673d685000ff3250fb22adc995"), looks := false }, kinds := [], alts := [], laidByText := true, laidKinds := [.data], laidTests := true, laidLooks := .later }
def FnExactIndexAtCardSaid : Prop := Claim7.holds Tryd.pinned (.plain (OpenSpec.ofChange fnExactIndexAtSpec)) fnExactIndexAtCard

/-- THE TIED CARD OF 'laws.FnExactSlopeAt'. -/
def fnExactSlopeAtCard : Claim7 := { stood := { row := fnExactSlopeAtRow, standIns := [], harness := (true, "da10ff261ccb0d50757e23721bf26fcbb1cf6d673d685000ff3250fb22adc995"), looks := false }, kinds := [], alts := [], laidByText := true, laidKinds := [.data], laidTests := true, laidLooks := .later }
def FnExactSlopeAtCardSaid : Prop := Claim7.holds Tryd.pinned (.plain (OpenSpec.ofChange fnExactSlopeAtSpec)) fnExactSlopeAtCard

/-- THE TIED CARD OF 'laws.FnExactSpreadOf'. -/
def fnExactSpreadOfCard : Claim7 := { stood := { row := fnExactSpreadOfRow, standIns := [], harness := (true, "da10ff261ccb0d50757e23721bf26fcbb1cf6d673d685000ff3250fb22adc995"), looks := false }, kinds := [], alts := [], laidByText := true, laidKinds := [.data], laidTests := true, laidLooks := .later }
def FnExactSpreadOfCardSaid : Prop := Claim7.holds Tryd.pinned (.plain (OpenSpec.ofChange fnExactSpreadOfSpec)) fnExactSpreadOfCard

/-- THE TIED CARD OF 'laws.FnExactMeltOf'. -/
def fnExactMeltOfCard : Claim7 := { stood := { row := fnExactMeltOfRow, standIns := [], harness := (true, "da10ff261ccb0d50757e23721bf26fcbb1cf6d673d685000ff3250fb22adc995"), looks := false }, kinds := [], alts := [], laidByText := true, laidKinds := [.data], laidTests := true, laidLooks := .later }
def FnExactMeltOfCardSaid : Prop := Claim7.holds Tryd.pinned (.plain (OpenSpec.ofChange fnExactMeltOfSpec)) fnExactMeltOfCard

/-- THE TIED CARD OF 'laws.FnExactReadGlasses'. -/
def fnExactReadGlassesCard : Claim7 := { stood := { row := fnExactReadGlassesRow, standIns := [], harness := (true, "da10ff261ccb0d50757e23721bf26fcbb1cf6d673d685000ff3250fb22adc995"), looks := false }, kinds := [], alts := [], laidByText := true, laidKinds := [.data, .data, .data, .pinned], laidTests := true, laidLooks := .later }
def FnExactReadGlassesCardSaid : Prop := Claim7.holds Tryd.pinned (.plain (OpenSpec.ofChange fnExactReadGlassesSpec)) fnExactReadGlassesCard

/-- THE TIED CARD OF 'laws.FnExactFormatGlasses'. -/
def fnExactFormatGlassesCard : Claim7 := { stood := { row := fnExactFormatGlassesRow, standIns := [], harness := (true, "da10ff261ccb0d50757e23721bf26fcbb1cf6d673d685000ff3250fb22adc995"), looks := false }, kinds := [], alts := [], laidByText := true, laidKinds := [.data, .data, .data, .data, .data], laidTests := true, laidLooks := .later }
def FnExactFormatGlassesCardSaid : Prop := Claim7.holds Tryd.pinned (.plain (OpenSpec.ofChange fnExactFormatGlassesSpec)) fnExactFormatGlassesCard

/-- THE SECOND FORM's CARD OF 'laws.FnExactGlassFault'. -/
def fnExactGlassFaultUptoCard : Claim7 := { stood := { row := fnExactGlassFaultUptoRow, standIns := [], harness := (true, "da10ff261ccb0d50757e23721bf26fcbb1cf6d673d685000ff3250fb22adc995"), looks := false }, kinds := [], alts := [], laidByText := true, laidKinds := [.data], laidTests := true, laidLooks := .later }
def FnExactGlassFaultUptoCardSaid : Prop := Claim7.holds Tryd.pinned (.plain (OpenSpec.upto fnExactGlassFaultSpec)) fnExactGlassFaultUptoCard

/-- THE SECOND FORM's CARD OF 'laws.FnExactIndexAt'. -/
def fnExactIndexAtUptoCard : Claim7 := { stood := { row := fnExactIndexAtUptoRow, standIns := [], harness := (true, "da10ff261ccb0d50757e23721bf26fcbb1cf6d673d685000ff3250fb22adc995"), looks := false }, kinds := [], alts := [], laidByText := true, laidKinds := [.data], laidTests := true, laidLooks := .later }
def FnExactIndexAtUptoCardSaid : Prop := Claim7.holds Tryd.pinned (.plain (OpenSpec.upto fnExactIndexAtSpec)) fnExactIndexAtUptoCard

/-- THE SECOND FORM's CARD OF 'laws.FnExactSlopeAt'. -/
def fnExactSlopeAtUptoCard : Claim7 := { stood := { row := fnExactSlopeAtUptoRow, standIns := [], harness := (true, "da10ff261ccb0d50757e23721bf26fcbb1cf6d673d685000ff3250fb22adc995"), looks := false }, kinds := [], alts := [], laidByText := true, laidKinds := [.data], laidTests := true, laidLooks := .later }
def FnExactSlopeAtUptoCardSaid : Prop := Claim7.holds Tryd.pinned (.plain (OpenSpec.upto fnExactSlopeAtSpec)) fnExactSlopeAtUptoCard

/-- THE SECOND FORM's CARD OF 'laws.FnExactSpreadOf'. -/
def fnExactSpreadOfUptoCard : Claim7 := { stood := { row := fnExactSpreadOfUptoRow, standIns := [], harness := (true, "da10ff261ccb0d50757e23721bf26fcbb1cf6d673d685000ff3250fb22adc995"), looks := false }, kinds := [], alts := [], laidByText := true, laidKinds := [.data], laidTests := true, laidLooks := .later }
def FnExactSpreadOfUptoCardSaid : Prop := Claim7.holds Tryd.pinned (.plain (OpenSpec.upto fnExactSpreadOfSpec)) fnExactSpreadOfUptoCard

/-- THE SECOND FORM's CARD OF 'laws.FnExactMeltOf'. -/
def fnExactMeltOfUptoCard : Claim7 := { stood := { row := fnExactMeltOfUptoRow, standIns := [], harness := (true, "da10ff261ccb0d50757e23721bf26fcbb1cf6d673d685000ff3250fb22adc995"), looks := false }, kinds := [], alts := [], laidByText := true, laidKinds := [.data], laidTests := true, laidLooks := .later }
def FnExactMeltOfUptoCardSaid : Prop := Claim7.holds Tryd.pinned (.plain (OpenSpec.upto fnExactMeltOfSpec)) fnExactMeltOfUptoCard

/-- THE SECOND FORM's CARD OF 'laws.FnExactReadGlasses'. -/
def fnExactReadGlassesUptoCard : Claim7 := { stood := { row := fnExactReadGlassesUptoRow, standIns := [], harness := (true, "da10ff261ccb0d50757e23721bf26fcbb1cf6d673d685000ff3250fb22adc995"), looks := false }, kinds := [], alts := [], laidByText := true, laidKinds := [.data, .data, .data, .pinned], laidTests := true, laidLooks := .later }
def FnExactReadGlassesUptoCardSaid : Prop := Claim7.holds Tryd.pinned (.plain (OpenSpec.upto fnExactReadGlassesSpec)) fnExactReadGlassesUptoCard

/-- THE SECOND FORM's CARD OF 'laws.FnExactFormatGlasses'. -/
def fnExactFormatGlassesUptoCard : Claim7 := { stood := { row := fnExactFormatGlassesUptoRow, standIns := [], harness := (true, "da10ff261ccb0d50757e23721bf26fcbb1cf6d673d685000ff3250fb22adc995"), looks := false }, kinds := [], alts := [], laidByText := true, laidKinds := [.data, .data, .data, .data, .data], laidTests := true, laidLooks := .later }
def FnExactFormatGlassesUptoCardSaid : Prop := Claim7.holds Tryd.pinned (.plain (OpenSpec.upto fnExactFormatGlassesSpec)) fnExactFormatGlassesUptoCard
end Rows
end Go.Proofs.YtndfncjoknibaaaDoor
