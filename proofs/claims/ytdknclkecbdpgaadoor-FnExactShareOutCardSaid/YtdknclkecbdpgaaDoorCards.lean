/-
  DERIVED. GIVEN WITH THE SEED: THE CARDS: each row of YtdknclkecbdpgaaDoorRows.lean that lists a variable, with what it lists TIED to the program's text (the seventh form; the later family's looks); each row that meets fmt, with fmt's text TOLD by the authors' own Lean function (tested against real Go, not proved from fmt's source: count such statements apart). THE CARD IS WHAT COUNTS. Prove the row's statement (the work); the ties are given (YtdknclkecbdpgaaDoorTie.lean); close each card by the builder's one call (the guide's Derived/Test/ToyasCard.lean, 'card_holds'). Laid BY PROGRAM, IN A SANDBOX (cutbox-door.mjs). By AI agents, Wed Nov 11 2026. No macro, syntax, notation, axiom, sorry.
-/
import Derived.Test.YtdknclkecbdpgaaDoorRows
import GoSem.ClaimSeven
namespace Go.Proofs.YtdknclkecbdpgaaDoor
namespace Rows

/-- THE TIED CARD OF 'laws.FnShares'. -/
def fnSharesCard : Claim7 := { stood := { row := fnSharesRow, standIns := [], harness := (true, "2a3ea9277edea9f13354192899e1050bff61de88375e0959a28fc33a2f330f7e"), looks := true }, kinds := [], alts := [], laidByText := true, laidKinds := [.handle], laidTests := true, laidLooks := .later }
def FnSharesCardSaid : Prop := Claim7.holds Tryd.pinned (.plain (OpenSpec.ofChange fnSharesSpec)) fnSharesCard

/-- THE TIED CARD OF 'laws.FnExactCheckSum'. -/
def fnExactCheckSumCard : Claim7 := { stood := { row := fnExactCheckSumRow, standIns := [], harness := (true, "2a3ea9277edea9f13354192899e1050bff61de88375e0959a28fc33a2f330f7e"), looks := true }, kinds := [], alts := [], laidByText := true, laidKinds := [.handle], laidTests := true, laidLooks := .later }
def FnExactCheckSumCardSaid : Prop := Claim7.holds Tryd.pinned (.plain (OpenSpec.ofChange fnExactCheckSumSpec)) fnExactCheckSumCard

/-- THE TIED CARD OF 'laws.FnExactWriteFrame'. -/
def fnExactWriteFrameCard : Claim7 := { stood := { row := fnExactWriteFrameRow, standIns := [], harness := (true, "2a3ea9277edea9f13354192899e1050bff61de88375e0959a28fc33a2f330f7e"), looks := true }, kinds := [], alts := [], laidByText := true, laidKinds := [.handle], laidTests := true, laidLooks := .later }
def FnExactWriteFrameCardSaid : Prop := Claim7.holds Tryd.pinned (.plain (OpenSpec.ofChange fnExactWriteFrameSpec)) fnExactWriteFrameCard

/-- THE TIED CARD OF 'laws.FnExactReadFrame'. -/
def fnExactReadFrameCard : Claim7 := { stood := { row := fnExactReadFrameRow, standIns := [], harness := (true, "2a3ea9277edea9f13354192899e1050bff61de88375e0959a28fc33a2f330f7e"), looks := true }, kinds := [], alts := [], laidByText := true, laidKinds := [.handle], laidTests := true, laidLooks := .later }
def FnExactReadFrameCardSaid : Prop := Claim7.holds Tryd.pinned (.plain (OpenSpec.ofChange fnExactReadFrameSpec)) fnExactReadFrameCard

/-- THE TIED CARD OF 'laws.FnExactReadStream'. -/
def fnExactReadStreamCard : Claim7 := { stood := { row := fnExactReadStreamRow, standIns := [], harness := (true, "2a3ea9277edea9f13354192899e1050bff61de88375e0959a28fc33a2f330f7e"), looks := true }, kinds := [], alts := [], laidByText := true, laidKinds := [.handle], laidTests := true, laidLooks := .later }
def FnExactReadStreamCardSaid : Prop := Claim7.holds Tryd.pinned (.plain (OpenSpec.ofChange fnExactReadStreamSpec)) fnExactReadStreamCard

/-- THE TIED CARD OF 'laws.FnExactHamEncode'. -/
def fnExactHamEncodeCard : Claim7 := { stood := { row := fnExactHamEncodeRow, standIns := [], harness := (true, "2a3ea9277edea9f13354192899e1050bff61de88375e0959a28fc33a2f330f7e"), looks := true }, kinds := [], alts := [], laidByText := true, laidKinds := [.handle], laidTests := true, laidLooks := .later }
def FnExactHamEncodeCardSaid : Prop := Claim7.holds Tryd.pinned (.plain (OpenSpec.ofChange fnExactHamEncodeSpec)) fnExactHamEncodeCard

/-- THE TIED CARD OF 'laws.FnExactScramble'. -/
def fnExactScrambleCard : Claim7 := { stood := { row := fnExactScrambleRow, standIns := [], harness := (true, "2a3ea9277edea9f13354192899e1050bff61de88375e0959a28fc33a2f330f7e"), looks := true }, kinds := [], alts := [], laidByText := true, laidKinds := [.handle], laidTests := true, laidLooks := .later }
def FnExactScrambleCardSaid : Prop := Claim7.holds Tryd.pinned (.plain (OpenSpec.ofChange fnExactScrambleSpec)) fnExactScrambleCard

/-- THE TIED CARD OF 'laws.FnExactInterleave'. -/
def fnExactInterleaveCard : Claim7 := { stood := { row := fnExactInterleaveRow, standIns := [], harness := (true, "2a3ea9277edea9f13354192899e1050bff61de88375e0959a28fc33a2f330f7e"), looks := true }, kinds := [], alts := [], laidByText := true, laidKinds := [.handle], laidTests := true, laidLooks := .later }
def FnExactInterleaveCardSaid : Prop := Claim7.holds Tryd.pinned (.plain (OpenSpec.ofChange fnExactInterleaveSpec)) fnExactInterleaveCard

/-- THE TIED CARD OF 'laws.FnExactWeave'. -/
def fnExactWeaveCard : Claim7 := { stood := { row := fnExactWeaveRow, standIns := [], harness := (true, "2a3ea9277edea9f13354192899e1050bff61de88375e0959a28fc33a2f330f7e"), looks := true }, kinds := [], alts := [], laidByText := true, laidKinds := [.handle], laidTests := true, laidLooks := .later }
def FnExactWeaveCardSaid : Prop := Claim7.holds Tryd.pinned (.plain (OpenSpec.ofChange fnExactWeaveSpec)) fnExactWeaveCard

/-- THE TIED CARD OF 'laws.FnExactPhaseEncode'. -/
def fnExactPhaseEncodeCard : Claim7 := { stood := { row := fnExactPhaseEncodeRow, standIns := [], harness := (true, "2a3ea9277edea9f13354192899e1050bff61de88375e0959a28fc33a2f330f7e"), looks := true }, kinds := [], alts := [], laidByText := true, laidKinds := [.handle], laidTests := true, laidLooks := .later }
def FnExactPhaseEncodeCardSaid : Prop := Claim7.holds Tryd.pinned (.plain (OpenSpec.ofChange fnExactPhaseEncodeSpec)) fnExactPhaseEncodeCard

/-- THE TIED CARD OF 'laws.FnExactPhaseDecode'. -/
def fnExactPhaseDecodeCard : Claim7 := { stood := { row := fnExactPhaseDecodeRow, standIns := [], harness := (true, "2a3ea9277edea9f13354192899e1050bff61de88375e0959a28fc33a2f330f7e"), looks := true }, kinds := [], alts := [], laidByText := true, laidKinds := [.handle], laidTests := true, laidLooks := .later }
def FnExactPhaseDecodeCardSaid : Prop := Claim7.holds Tryd.pinned (.plain (OpenSpec.ofChange fnExactPhaseDecodeSpec)) fnExactPhaseDecodeCard

/-- THE TIED CARD OF 'laws.FnExactShareOut'. -/
def fnExactShareOutCard : Claim7 := { stood := { row := fnExactShareOutRow, standIns := [], harness := (true, "2a3ea9277edea9f13354192899e1050bff61de88375e0959a28fc33a2f330f7e"), looks := true }, kinds := [], alts := [], laidByText := true, laidKinds := [.handle], laidTests := true, laidLooks := .later }
def FnExactShareOutCardSaid : Prop := Claim7.holds Tryd.pinned (.plain (OpenSpec.ofChange fnExactShareOutSpec)) fnExactShareOutCard

/-- THE TIED CARD OF 'laws.FnExactShareIn'. -/
def fnExactShareInCard : Claim7 := { stood := { row := fnExactShareInRow, standIns := [], harness := (true, "2a3ea9277edea9f13354192899e1050bff61de88375e0959a28fc33a2f330f7e"), looks := true }, kinds := [], alts := [], laidByText := true, laidKinds := [.handle], laidTests := true, laidLooks := .later }
def FnExactShareInCardSaid : Prop := Claim7.holds Tryd.pinned (.plain (OpenSpec.ofChange fnExactShareInSpec)) fnExactShareInCard

/-- THE SECOND FORM's CARD OF 'laws.FnShares'. -/
def fnSharesUptoCard : Claim7 := { stood := { row := fnSharesUptoRow, standIns := [], harness := (true, "2a3ea9277edea9f13354192899e1050bff61de88375e0959a28fc33a2f330f7e"), looks := true }, kinds := [], alts := [], laidByText := true, laidKinds := [.handle], laidTests := true, laidLooks := .later }
def FnSharesUptoCardSaid : Prop := Claim7.holds Tryd.pinned (.plain (OpenSpec.upto fnSharesSpec)) fnSharesUptoCard

/-- THE SECOND FORM's CARD OF 'laws.FnExactCheckSum'. -/
def fnExactCheckSumUptoCard : Claim7 := { stood := { row := fnExactCheckSumUptoRow, standIns := [], harness := (true, "2a3ea9277edea9f13354192899e1050bff61de88375e0959a28fc33a2f330f7e"), looks := true }, kinds := [], alts := [], laidByText := true, laidKinds := [.handle], laidTests := true, laidLooks := .later }
def FnExactCheckSumUptoCardSaid : Prop := Claim7.holds Tryd.pinned (.plain (OpenSpec.upto fnExactCheckSumSpec)) fnExactCheckSumUptoCard

/-- THE SECOND FORM's CARD OF 'laws.FnExactWriteFrame'. -/
def fnExactWriteFrameUptoCard : Claim7 := { stood := { row := fnExactWriteFrameUptoRow, standIns := [], harness := (true, "2a3ea9277edea9f13354192899e1050bff61de88375e0959a28fc33a2f330f7e"), looks := true }, kinds := [], alts := [], laidByText := true, laidKinds := [.handle], laidTests := true, laidLooks := .later }
def FnExactWriteFrameUptoCardSaid : Prop := Claim7.holds Tryd.pinned (.plain (OpenSpec.upto fnExactWriteFrameSpec)) fnExactWriteFrameUptoCard

/-- THE SECOND FORM's CARD OF 'laws.FnExactReadFrame'. -/
def fnExactReadFrameUptoCard : Claim7 := { stood := { row := fnExactReadFrameUptoRow, standIns := [], harness := (true, "2a3ea9277edea9f13354192899e1050bff61de88375e0959a28fc33a2f330f7e"), looks := true }, kinds := [], alts := [], laidByText := true, laidKinds := [.handle], laidTests := true, laidLooks := .later }
def FnExactReadFrameUptoCardSaid : Prop := Claim7.holds Tryd.pinned (.plain (OpenSpec.upto fnExactReadFrameSpec)) fnExactReadFrameUptoCard

/-- THE SECOND FORM's CARD OF 'laws.FnExactReadStream'. -/
def fnExactReadStreamUptoCard : Claim7 := { stood := { row := fnExactReadStreamUptoRow, standIns := [], harness := (true, "2a3ea9277edea9f13354192899e1050bff61de88375e0959a28fc33a2f330f7e"), looks := true }, kinds := [], alts := [], laidByText := true, laidKinds := [.handle], laidTests := true, laidLooks := .later }
def FnExactReadStreamUptoCardSaid : Prop := Claim7.holds Tryd.pinned (.plain (OpenSpec.upto fnExactReadStreamSpec)) fnExactReadStreamUptoCard

/-- THE SECOND FORM's CARD OF 'laws.FnExactHamEncode'. -/
def fnExactHamEncodeUptoCard : Claim7 := { stood := { row := fnExactHamEncodeUptoRow, standIns := [], harness := (true, "2a3ea9277edea9f13354192899e1050bff61de88375e0959a28fc33a2f330f7e"), looks := true }, kinds := [], alts := [], laidByText := true, laidKinds := [.handle], laidTests := true, laidLooks := .later }
def FnExactHamEncodeUptoCardSaid : Prop := Claim7.holds Tryd.pinned (.plain (OpenSpec.upto fnExactHamEncodeSpec)) fnExactHamEncodeUptoCard

/-- THE SECOND FORM's CARD OF 'laws.FnExactScramble'. -/
def fnExactScrambleUptoCard : Claim7 := { stood := { row := fnExactScrambleUptoRow, standIns := [], harness := (true, "2a3ea9277edea9f13354192899e1050bff61de88375e0959a28fc33a2f330f7e"), looks := true }, kinds := [], alts := [], laidByText := true, laidKinds := [.handle], laidTests := true, laidLooks := .later }
def FnExactScrambleUptoCardSaid : Prop := Claim7.holds Tryd.pinned (.plain (OpenSpec.upto fnExactScrambleSpec)) fnExactScrambleUptoCard

/-- THE SECOND FORM's CARD OF 'laws.FnExactInterleave'. -/
def fnExactInterleaveUptoCard : Claim7 := { stood := { row := fnExactInterleaveUptoRow, standIns := [], harness := (true, "2a3ea9277edea9f13354192899e1050bff61de88375e0959a28fc33a2f330f7e"), looks := true }, kinds := [], alts := [], laidByText := true, laidKinds := [.handle], laidTests := true, laidLooks := .later }
def FnExactInterleaveUptoCardSaid : Prop := Claim7.holds Tryd.pinned (.plain (OpenSpec.upto fnExactInterleaveSpec)) fnExactInterleaveUptoCard

/-- THE SECOND FORM's CARD OF 'laws.FnExactWeave'. -/
def fnExactWeaveUptoCard : Claim7 := { stood := { row := fnExactWeaveUptoRow, standIns := [], harness := (true, "2a3ea9277edea9f13354192899e1050bff61de88375e0959a28fc33a2f330f7e"), looks := true }, kinds := [], alts := [], laidByText := true, laidKinds := [.handle], laidTests := true, laidLooks := .later }
def FnExactWeaveUptoCardSaid : Prop := Claim7.holds Tryd.pinned (.plain (OpenSpec.upto fnExactWeaveSpec)) fnExactWeaveUptoCard

/-- THE SECOND FORM's CARD OF 'laws.FnExactPhaseEncode'. -/
def fnExactPhaseEncodeUptoCard : Claim7 := { stood := { row := fnExactPhaseEncodeUptoRow, standIns := [], harness := (true, "2a3ea9277edea9f13354192899e1050bff61de88375e0959a28fc33a2f330f7e"), looks := true }, kinds := [], alts := [], laidByText := true, laidKinds := [.handle], laidTests := true, laidLooks := .later }
def FnExactPhaseEncodeUptoCardSaid : Prop := Claim7.holds Tryd.pinned (.plain (OpenSpec.upto fnExactPhaseEncodeSpec)) fnExactPhaseEncodeUptoCard

/-- THE SECOND FORM's CARD OF 'laws.FnExactPhaseDecode'. -/
def fnExactPhaseDecodeUptoCard : Claim7 := { stood := { row := fnExactPhaseDecodeUptoRow, standIns := [], harness := (true, "2a3ea9277edea9f13354192899e1050bff61de88375e0959a28fc33a2f330f7e"), looks := true }, kinds := [], alts := [], laidByText := true, laidKinds := [.handle], laidTests := true, laidLooks := .later }
def FnExactPhaseDecodeUptoCardSaid : Prop := Claim7.holds Tryd.pinned (.plain (OpenSpec.upto fnExactPhaseDecodeSpec)) fnExactPhaseDecodeUptoCard

/-- THE SECOND FORM's CARD OF 'laws.FnExactShareOut'. -/
def fnExactShareOutUptoCard : Claim7 := { stood := { row := fnExactShareOutUptoRow, standIns := [], harness := (true, "2a3ea9277edea9f13354192899e1050bff61de88375e0959a28fc33a2f330f7e"), looks := true }, kinds := [], alts := [], laidByText := true, laidKinds := [.handle], laidTests := true, laidLooks := .later }
def FnExactShareOutUptoCardSaid : Prop := Claim7.holds Tryd.pinned (.plain (OpenSpec.upto fnExactShareOutSpec)) fnExactShareOutUptoCard

/-- THE SECOND FORM's CARD OF 'laws.FnExactShareIn'. -/
def fnExactShareInUptoCard : Claim7 := { stood := { row := fnExactShareInUptoRow, standIns := [], harness := (true, "2a3ea9277edea9f13354192899e1050bff61de88375e0959a28fc33a2f330f7e"), looks := true }, kinds := [], alts := [], laidByText := true, laidKinds := [.handle], laidTests := true, laidLooks := .later }
def FnExactShareInUptoCardSaid : Prop := Claim7.holds Tryd.pinned (.plain (OpenSpec.upto fnExactShareInSpec)) fnExactShareInUptoCard
end Rows
end Go.Proofs.YtdknclkecbdpgaaDoor
