/-
  NARROWER THAN 'FOR EVERY INPUT', by the rows' own cells (each row's printed sentence says how): FnShares: laid · FnExactCheckSum: laid · FnExactWriteFrame: laid · FnExactReadFrame: laid · FnExactReadStream: laid · FnExactHamEncode: laid · FnExactScramble: laid · FnExactInterleave: laid · FnExactWeave: laid · FnExactPhaseEncode: laid · FnExactPhaseDecode: laid · FnExactShareOut: laid · FnExactShareIn: laid.
  DERIVED. THE GIVEN ROWS OF THIS SEAT. 13 by the template 'for every input the law returns true; each argument reads behind the call as it read before'; 0 by the template 'total and deterministic' (their statements: YtdknclkecbdpgaaDoorTotals.lean).
  GIVEN WITH THE SEED: the statements are not yours to turn. If you find one false, say at which input.
  Laid BY PROGRAM, IN A SANDBOX (cutbox-rows.mjs): the forced cells as the released guide's own fill.sh prints them over the translation 77b7b79fee7a336a… (all of the seat's roots in one cut). By AI agents, Wed Nov 11 2026. No macro, syntax, notation, axiom, sorry.
-/
import Derived.Test.YtdknclkecbdpgaaDoorChecked
import GoSem.Claim
import GoSem.ClaimJoined
import GoSem.ClaimMapViews
import Derived.JoinedTies
import Derived.KernelRfl
namespace Go.Proofs.YtdknclkecbdpgaaDoor
/- THE CELL 'sum', in the pinned program and in every row, IS THE sha256 OF THE DUMP (.gsa) THAT YtdknclkecbdpgaaDoorProg.lean LOADS. Nothing in Lean hashes anything: it is a label: what it is worth is what the hold of that sum in a sandbox is worth. -/
noncomputable def Tryd.pinned : Pinned := { name := "ytdknclkecbdpgaadoor", sum := "77b7b79fee7a336abdf25fd60b3831507e7e9aa45eeafeedac1770a884934312", checked := Tryd.checked }
namespace Rows
def none {H : Type} : Left H := { results := [], args := [] }

/- WHAT THE LISTED PACKAGE-LEVEL VARIABLES READ AS WHEN THE CALL BEGINS. Each datum BY PROGRAM (the guide's laid-datum.mjs) off the statement by which the dump's own 'gosem.cut.vars' lays the variable. In a bare row this is a premise. The card (YtdknclkecbdpgaaDoorCards.lean) ties it to the program's text. -/
def laid_errors_errorType {H : Type} : DataW H := .iface "internal/reflectlite.rtype" (.agg [.ptr (.lit (.string [101, 114, 114, 111, 114]))])

/-- 'laws.FnShares': WHATEVER THE INPUT: true; the input reads as it did. -/
def fnSharesSpec : ChangeSpec := { name := "fnShares", fn := fun _ => fun
  | [d] => { results := [.lit (.bool true)], args := [d] }
  | _ => none }
def fnSharesRow : OpenClaim := { program := "ytdknclkecbdpgaadoor", sum := "77b7b79fee7a336abdf25fd60b3831507e7e9aa45eeafeedac1770a884934312", func := "loop.example/g00049/laws.FnShares", spec := "fnShares", inPlace := ["internal/reflectlite.ValueOf", "(internal/reflectlite.Value).Type", "(internal/reflectlite.Value).IsNil", "internal/reflectlite.TypeOf", "(internal/reflectlite.Value).Elem", "(internal/reflectlite.Value).Set"], unfollowed := true, recurses := true, named := ["errors.errorType"], apart := false, laid := [("errors.errorType", laid_errors_errorType)] }
def FnSharesSaid : Prop := fnSharesRow.holds Tryd.pinned (OpenSpec.ofChange fnSharesSpec)

/-- ITS FALSE NEIGHBOUR: 'it returns false'. Refute it at one input. -/
def fnSharesWrong : ChangeSpec := { name := "fnShares", fn := fun _ => fun
  | [d] => { results := [.lit (.bool false)], args := [d] }
  | _ => none }
def FnSharesWrongFalsely : Prop := fnSharesRow.holds Tryd.pinned (OpenSpec.ofChange fnSharesWrong)

/-- 'laws.FnExactCheckSum': WHATEVER THE INPUT: true; the input reads as it did. -/
def fnExactCheckSumSpec : ChangeSpec := { name := "fnExactCheckSum", fn := fun _ => fun
  | [d] => { results := [.lit (.bool true)], args := [d] }
  | _ => none }
def fnExactCheckSumRow : OpenClaim := { program := "ytdknclkecbdpgaadoor", sum := "77b7b79fee7a336abdf25fd60b3831507e7e9aa45eeafeedac1770a884934312", func := "loop.example/g00049/laws.FnExactCheckSum", spec := "fnExactCheckSum", inPlace := ["internal/reflectlite.ValueOf", "(internal/reflectlite.Value).Type", "(internal/reflectlite.Value).IsNil", "internal/reflectlite.TypeOf", "(internal/reflectlite.Value).Elem", "(internal/reflectlite.Value).Set"], unfollowed := true, recurses := true, named := ["errors.errorType"], apart := false, laid := [("errors.errorType", laid_errors_errorType)] }
def FnExactCheckSumSaid : Prop := fnExactCheckSumRow.holds Tryd.pinned (OpenSpec.ofChange fnExactCheckSumSpec)

/-- ITS FALSE NEIGHBOUR: 'it returns false'. Refute it at one input. -/
def fnExactCheckSumWrong : ChangeSpec := { name := "fnExactCheckSum", fn := fun _ => fun
  | [d] => { results := [.lit (.bool false)], args := [d] }
  | _ => none }
def FnExactCheckSumWrongFalsely : Prop := fnExactCheckSumRow.holds Tryd.pinned (OpenSpec.ofChange fnExactCheckSumWrong)

/-- 'laws.FnExactWriteFrame': WHATEVER THE INPUT: true; the input reads as it did. -/
def fnExactWriteFrameSpec : ChangeSpec := { name := "fnExactWriteFrame", fn := fun _ => fun
  | [d] => { results := [.lit (.bool true)], args := [d] }
  | _ => none }
def fnExactWriteFrameRow : OpenClaim := { program := "ytdknclkecbdpgaadoor", sum := "77b7b79fee7a336abdf25fd60b3831507e7e9aa45eeafeedac1770a884934312", func := "loop.example/g00049/laws.FnExactWriteFrame", spec := "fnExactWriteFrame", inPlace := ["internal/reflectlite.ValueOf", "(internal/reflectlite.Value).Type", "(internal/reflectlite.Value).IsNil", "internal/reflectlite.TypeOf", "(internal/reflectlite.Value).Elem", "(internal/reflectlite.Value).Set"], unfollowed := true, recurses := true, named := ["errors.errorType"], apart := false, laid := [("errors.errorType", laid_errors_errorType)] }
def FnExactWriteFrameSaid : Prop := fnExactWriteFrameRow.holds Tryd.pinned (OpenSpec.ofChange fnExactWriteFrameSpec)

/-- ITS FALSE NEIGHBOUR: 'it returns false'. Refute it at one input. -/
def fnExactWriteFrameWrong : ChangeSpec := { name := "fnExactWriteFrame", fn := fun _ => fun
  | [d] => { results := [.lit (.bool false)], args := [d] }
  | _ => none }
def FnExactWriteFrameWrongFalsely : Prop := fnExactWriteFrameRow.holds Tryd.pinned (OpenSpec.ofChange fnExactWriteFrameWrong)

/-- 'laws.FnExactReadFrame': WHATEVER THE INPUT: true; the input reads as it did. -/
def fnExactReadFrameSpec : ChangeSpec := { name := "fnExactReadFrame", fn := fun _ => fun
  | [d] => { results := [.lit (.bool true)], args := [d] }
  | _ => none }
def fnExactReadFrameRow : OpenClaim := { program := "ytdknclkecbdpgaadoor", sum := "77b7b79fee7a336abdf25fd60b3831507e7e9aa45eeafeedac1770a884934312", func := "loop.example/g00049/laws.FnExactReadFrame", spec := "fnExactReadFrame", inPlace := ["internal/reflectlite.ValueOf", "(internal/reflectlite.Value).Type", "(internal/reflectlite.Value).IsNil", "internal/reflectlite.TypeOf", "(internal/reflectlite.Value).Elem", "(internal/reflectlite.Value).Set"], unfollowed := true, recurses := true, named := ["errors.errorType"], apart := false, laid := [("errors.errorType", laid_errors_errorType)] }
def FnExactReadFrameSaid : Prop := fnExactReadFrameRow.holds Tryd.pinned (OpenSpec.ofChange fnExactReadFrameSpec)

/-- ITS FALSE NEIGHBOUR: 'it returns false'. Refute it at one input. -/
def fnExactReadFrameWrong : ChangeSpec := { name := "fnExactReadFrame", fn := fun _ => fun
  | [d] => { results := [.lit (.bool false)], args := [d] }
  | _ => none }
def FnExactReadFrameWrongFalsely : Prop := fnExactReadFrameRow.holds Tryd.pinned (OpenSpec.ofChange fnExactReadFrameWrong)

/-- 'laws.FnExactReadStream': WHATEVER THE INPUT: true; the input reads as it did. -/
def fnExactReadStreamSpec : ChangeSpec := { name := "fnExactReadStream", fn := fun _ => fun
  | [d] => { results := [.lit (.bool true)], args := [d] }
  | _ => none }
def fnExactReadStreamRow : OpenClaim := { program := "ytdknclkecbdpgaadoor", sum := "77b7b79fee7a336abdf25fd60b3831507e7e9aa45eeafeedac1770a884934312", func := "loop.example/g00049/laws.FnExactReadStream", spec := "fnExactReadStream", inPlace := ["internal/reflectlite.ValueOf", "(internal/reflectlite.Value).Type", "(internal/reflectlite.Value).IsNil", "internal/reflectlite.TypeOf", "(internal/reflectlite.Value).Elem", "(internal/reflectlite.Value).Set"], unfollowed := true, recurses := true, named := ["errors.errorType"], apart := false, laid := [("errors.errorType", laid_errors_errorType)] }
def FnExactReadStreamSaid : Prop := fnExactReadStreamRow.holds Tryd.pinned (OpenSpec.ofChange fnExactReadStreamSpec)

/-- ITS FALSE NEIGHBOUR: 'it returns false'. Refute it at one input. -/
def fnExactReadStreamWrong : ChangeSpec := { name := "fnExactReadStream", fn := fun _ => fun
  | [d] => { results := [.lit (.bool false)], args := [d] }
  | _ => none }
def FnExactReadStreamWrongFalsely : Prop := fnExactReadStreamRow.holds Tryd.pinned (OpenSpec.ofChange fnExactReadStreamWrong)

/-- 'laws.FnExactHamEncode': WHATEVER THE INPUT: true; the input reads as it did. -/
def fnExactHamEncodeSpec : ChangeSpec := { name := "fnExactHamEncode", fn := fun _ => fun
  | [d] => { results := [.lit (.bool true)], args := [d] }
  | _ => none }
def fnExactHamEncodeRow : OpenClaim := { program := "ytdknclkecbdpgaadoor", sum := "77b7b79fee7a336abdf25fd60b3831507e7e9aa45eeafeedac1770a884934312", func := "loop.example/g00049/laws.FnExactHamEncode", spec := "fnExactHamEncode", inPlace := ["internal/reflectlite.ValueOf", "(internal/reflectlite.Value).Type", "(internal/reflectlite.Value).IsNil", "internal/reflectlite.TypeOf", "(internal/reflectlite.Value).Elem", "(internal/reflectlite.Value).Set"], unfollowed := true, recurses := true, named := ["errors.errorType"], apart := false, laid := [("errors.errorType", laid_errors_errorType)] }
def FnExactHamEncodeSaid : Prop := fnExactHamEncodeRow.holds Tryd.pinned (OpenSpec.ofChange fnExactHamEncodeSpec)

/-- ITS FALSE NEIGHBOUR: 'it returns false'. Refute it at one input. -/
def fnExactHamEncodeWrong : ChangeSpec := { name := "fnExactHamEncode", fn := fun _ => fun
  | [d] => { results := [.lit (.bool false)], args := [d] }
  | _ => none }
def FnExactHamEncodeWrongFalsely : Prop := fnExactHamEncodeRow.holds Tryd.pinned (OpenSpec.ofChange fnExactHamEncodeWrong)

/-- 'laws.FnExactScramble': WHATEVER THE INPUT: true; the input reads as it did. -/
def fnExactScrambleSpec : ChangeSpec := { name := "fnExactScramble", fn := fun _ => fun
  | [d1, d2] => { results := [.lit (.bool true)], args := [d1, d2] }
  | _ => none }
def fnExactScrambleRow : OpenClaim := { program := "ytdknclkecbdpgaadoor", sum := "77b7b79fee7a336abdf25fd60b3831507e7e9aa45eeafeedac1770a884934312", func := "loop.example/g00049/laws.FnExactScramble", spec := "fnExactScramble", inPlace := ["internal/reflectlite.ValueOf", "(internal/reflectlite.Value).Type", "(internal/reflectlite.Value).IsNil", "internal/reflectlite.TypeOf", "(internal/reflectlite.Value).Elem", "(internal/reflectlite.Value).Set"], unfollowed := true, recurses := true, named := ["errors.errorType"], apart := false, laid := [("errors.errorType", laid_errors_errorType)] }
def FnExactScrambleSaid : Prop := fnExactScrambleRow.holds Tryd.pinned (OpenSpec.ofChange fnExactScrambleSpec)

/-- ITS FALSE NEIGHBOUR: 'it returns false'. Refute it at one input. -/
def fnExactScrambleWrong : ChangeSpec := { name := "fnExactScramble", fn := fun _ => fun
  | [d1, d2] => { results := [.lit (.bool false)], args := [d1, d2] }
  | _ => none }
def FnExactScrambleWrongFalsely : Prop := fnExactScrambleRow.holds Tryd.pinned (OpenSpec.ofChange fnExactScrambleWrong)

/-- 'laws.FnExactInterleave': WHATEVER THE INPUT: true; the input reads as it did. -/
def fnExactInterleaveSpec : ChangeSpec := { name := "fnExactInterleave", fn := fun _ => fun
  | [d1, d2] => { results := [.lit (.bool true)], args := [d1, d2] }
  | _ => none }
def fnExactInterleaveRow : OpenClaim := { program := "ytdknclkecbdpgaadoor", sum := "77b7b79fee7a336abdf25fd60b3831507e7e9aa45eeafeedac1770a884934312", func := "loop.example/g00049/laws.FnExactInterleave", spec := "fnExactInterleave", inPlace := ["internal/reflectlite.ValueOf", "(internal/reflectlite.Value).Type", "(internal/reflectlite.Value).IsNil", "internal/reflectlite.TypeOf", "(internal/reflectlite.Value).Elem", "(internal/reflectlite.Value).Set"], unfollowed := true, recurses := true, named := ["errors.errorType"], apart := false, laid := [("errors.errorType", laid_errors_errorType)] }
def FnExactInterleaveSaid : Prop := fnExactInterleaveRow.holds Tryd.pinned (OpenSpec.ofChange fnExactInterleaveSpec)

/-- ITS FALSE NEIGHBOUR: 'it returns false'. Refute it at one input. -/
def fnExactInterleaveWrong : ChangeSpec := { name := "fnExactInterleave", fn := fun _ => fun
  | [d1, d2] => { results := [.lit (.bool false)], args := [d1, d2] }
  | _ => none }
def FnExactInterleaveWrongFalsely : Prop := fnExactInterleaveRow.holds Tryd.pinned (OpenSpec.ofChange fnExactInterleaveWrong)

/-- 'laws.FnExactWeave': WHATEVER THE INPUT: true; the input reads as it did. -/
def fnExactWeaveSpec : ChangeSpec := { name := "fnExactWeave", fn := fun _ => fun
  | [d1, d2] => { results := [.lit (.bool true)], args := [d1, d2] }
  | _ => none }
def fnExactWeaveRow : OpenClaim := { program := "ytdknclkecbdpgaadoor", sum := "77b7b79fee7a336abdf25fd60b3831507e7e9aa45eeafeedac1770a884934312", func := "loop.example/g00049/laws.FnExactWeave", spec := "fnExactWeave", inPlace := ["internal/reflectlite.ValueOf", "(internal/reflectlite.Value).Type", "(internal/reflectlite.Value).IsNil", "internal/reflectlite.TypeOf", "(internal/reflectlite.Value).Elem", "(internal/reflectlite.Value).Set"], unfollowed := true, recurses := true, named := ["errors.errorType"], apart := false, laid := [("errors.errorType", laid_errors_errorType)] }
def FnExactWeaveSaid : Prop := fnExactWeaveRow.holds Tryd.pinned (OpenSpec.ofChange fnExactWeaveSpec)

/-- ITS FALSE NEIGHBOUR: 'it returns false'. Refute it at one input. -/
def fnExactWeaveWrong : ChangeSpec := { name := "fnExactWeave", fn := fun _ => fun
  | [d1, d2] => { results := [.lit (.bool false)], args := [d1, d2] }
  | _ => none }
def FnExactWeaveWrongFalsely : Prop := fnExactWeaveRow.holds Tryd.pinned (OpenSpec.ofChange fnExactWeaveWrong)

/-- 'laws.FnExactPhaseEncode': WHATEVER THE INPUT: true; the input reads as it did. -/
def fnExactPhaseEncodeSpec : ChangeSpec := { name := "fnExactPhaseEncode", fn := fun _ => fun
  | [d] => { results := [.lit (.bool true)], args := [d] }
  | _ => none }
def fnExactPhaseEncodeRow : OpenClaim := { program := "ytdknclkecbdpgaadoor", sum := "77b7b79fee7a336abdf25fd60b3831507e7e9aa45eeafeedac1770a884934312", func := "loop.example/g00049/laws.FnExactPhaseEncode", spec := "fnExactPhaseEncode", inPlace := ["internal/reflectlite.ValueOf", "(internal/reflectlite.Value).Type", "(internal/reflectlite.Value).IsNil", "internal/reflectlite.TypeOf", "(internal/reflectlite.Value).Elem", "(internal/reflectlite.Value).Set"], unfollowed := true, recurses := true, named := ["errors.errorType"], apart := false, laid := [("errors.errorType", laid_errors_errorType)] }
def FnExactPhaseEncodeSaid : Prop := fnExactPhaseEncodeRow.holds Tryd.pinned (OpenSpec.ofChange fnExactPhaseEncodeSpec)

/-- ITS FALSE NEIGHBOUR: 'it returns false'. Refute it at one input. -/
def fnExactPhaseEncodeWrong : ChangeSpec := { name := "fnExactPhaseEncode", fn := fun _ => fun
  | [d] => { results := [.lit (.bool false)], args := [d] }
  | _ => none }
def FnExactPhaseEncodeWrongFalsely : Prop := fnExactPhaseEncodeRow.holds Tryd.pinned (OpenSpec.ofChange fnExactPhaseEncodeWrong)

/-- 'laws.FnExactPhaseDecode': WHATEVER THE INPUT: true; the input reads as it did. -/
def fnExactPhaseDecodeSpec : ChangeSpec := { name := "fnExactPhaseDecode", fn := fun _ => fun
  | [d] => { results := [.lit (.bool true)], args := [d] }
  | _ => none }
def fnExactPhaseDecodeRow : OpenClaim := { program := "ytdknclkecbdpgaadoor", sum := "77b7b79fee7a336abdf25fd60b3831507e7e9aa45eeafeedac1770a884934312", func := "loop.example/g00049/laws.FnExactPhaseDecode", spec := "fnExactPhaseDecode", inPlace := ["internal/reflectlite.ValueOf", "(internal/reflectlite.Value).Type", "(internal/reflectlite.Value).IsNil", "internal/reflectlite.TypeOf", "(internal/reflectlite.Value).Elem", "(internal/reflectlite.Value).Set"], unfollowed := true, recurses := true, named := ["errors.errorType"], apart := false, laid := [("errors.errorType", laid_errors_errorType)] }
def FnExactPhaseDecodeSaid : Prop := fnExactPhaseDecodeRow.holds Tryd.pinned (OpenSpec.ofChange fnExactPhaseDecodeSpec)

/-- ITS FALSE NEIGHBOUR: 'it returns false'. Refute it at one input. -/
def fnExactPhaseDecodeWrong : ChangeSpec := { name := "fnExactPhaseDecode", fn := fun _ => fun
  | [d] => { results := [.lit (.bool false)], args := [d] }
  | _ => none }
def FnExactPhaseDecodeWrongFalsely : Prop := fnExactPhaseDecodeRow.holds Tryd.pinned (OpenSpec.ofChange fnExactPhaseDecodeWrong)

/-- 'laws.FnExactShareOut': WHATEVER THE INPUT: true; the input reads as it did. -/
def fnExactShareOutSpec : ChangeSpec := { name := "fnExactShareOut", fn := fun _ => fun
  | [d1, d2] => { results := [.lit (.bool true)], args := [d1, d2] }
  | _ => none }
def fnExactShareOutRow : OpenClaim := { program := "ytdknclkecbdpgaadoor", sum := "77b7b79fee7a336abdf25fd60b3831507e7e9aa45eeafeedac1770a884934312", func := "loop.example/g00049/laws.FnExactShareOut", spec := "fnExactShareOut", inPlace := ["internal/reflectlite.ValueOf", "(internal/reflectlite.Value).Type", "(internal/reflectlite.Value).IsNil", "internal/reflectlite.TypeOf", "(internal/reflectlite.Value).Elem", "(internal/reflectlite.Value).Set"], unfollowed := true, recurses := true, named := ["errors.errorType"], apart := false, laid := [("errors.errorType", laid_errors_errorType)] }
def FnExactShareOutSaid : Prop := fnExactShareOutRow.holds Tryd.pinned (OpenSpec.ofChange fnExactShareOutSpec)

/-- ITS FALSE NEIGHBOUR: 'it returns false'. Refute it at one input. -/
def fnExactShareOutWrong : ChangeSpec := { name := "fnExactShareOut", fn := fun _ => fun
  | [d1, d2] => { results := [.lit (.bool false)], args := [d1, d2] }
  | _ => none }
def FnExactShareOutWrongFalsely : Prop := fnExactShareOutRow.holds Tryd.pinned (OpenSpec.ofChange fnExactShareOutWrong)

/-- 'laws.FnExactShareIn': WHATEVER THE INPUT: true; the input reads as it did. -/
def fnExactShareInSpec : ChangeSpec := { name := "fnExactShareIn", fn := fun _ => fun
  | [d1, d2] => { results := [.lit (.bool true)], args := [d1, d2] }
  | _ => none }
def fnExactShareInRow : OpenClaim := { program := "ytdknclkecbdpgaadoor", sum := "77b7b79fee7a336abdf25fd60b3831507e7e9aa45eeafeedac1770a884934312", func := "loop.example/g00049/laws.FnExactShareIn", spec := "fnExactShareIn", inPlace := ["internal/reflectlite.ValueOf", "(internal/reflectlite.Value).Type", "(internal/reflectlite.Value).IsNil", "internal/reflectlite.TypeOf", "(internal/reflectlite.Value).Elem", "(internal/reflectlite.Value).Set"], unfollowed := true, recurses := true, named := ["errors.errorType"], apart := false, laid := [("errors.errorType", laid_errors_errorType)] }
def FnExactShareInSaid : Prop := fnExactShareInRow.holds Tryd.pinned (OpenSpec.ofChange fnExactShareInSpec)

/-- ITS FALSE NEIGHBOUR: 'it returns false'. Refute it at one input. -/
def fnExactShareInWrong : ChangeSpec := { name := "fnExactShareIn", fn := fun _ => fun
  | [d1, d2] => { results := [.lit (.bool false)], args := [d1, d2] }
  | _ => none }
def FnExactShareInWrongFalsely : Prop := fnExactShareInRow.holds Tryd.pinned (OpenSpec.ofChange fnExactShareInWrong)

/- THE SECOND FORM. 'bulk': how many values and letters a reading holds, each counted each time it is reached (what is shared counts as often as it is met; a slice's spare places count too). A statement '..UptoSaid' is the law's where the arguments, and the package variables that the reading takes, are together of bulk at most 1048576: NARROWER than '..Said'. Prove '..Said' where nothing that the law and all that it calls make is longer than what came in: it says more and counts as full. Else prove '..UptoSaid'. A law counts once. -/
mutual
def uptoBulk {H : Type} : DataW H → Nat
  | .lit (.string bytes) => bytes.length + 1
  | .lit _ => 1
  | .nil => 1
  | .ptr d => uptoBulk d + 1
  | .slice elems spare => uptoBulkAll elems + uptoBulkAll spare + 1
  | .agg parts => uptoBulkAll parts + 1
  | .iface _ d => uptoBulk d + 1
  | .map entries => uptoBulkEntries entries + 1
  | .held _ => 1
def uptoBulkAll {H : Type} : List (DataW H) → Nat
  | [] => 0
  | d :: r => uptoBulk d + uptoBulkAll r
def uptoBulkEntries {H : Type} : List (Lit × DataW H) → Nat
  | [] => 0
  | x :: r => uptoBulkEntry x + uptoBulkEntries r
def uptoBulkEntry {H : Type} : Lit × DataW H → Nat
  | (.string bytes, d) => bytes.length + uptoBulk d + 1
  | (_, d) => uptoBulk d + 1
 end
def uptoSmall : (H : Type) → List (DataW H) → Bool := fun _ ds => decide (uptoBulkAll ds ≤ 1048576)
def OpenSpec.upto (s : _root_.Go.ChangeSpec) : _root_.Go.OpenSpec := { _root_.Go.OpenSpec.ofChange s with cond := some uptoSmall }

/-- 'laws.FnShares', WHERE WHAT IT READS IS OF BULK AT MOST 1048576: true; the input reads as it did. -/
def fnSharesUptoRow : OpenClaim := { program := "ytdknclkecbdpgaadoor", sum := "77b7b79fee7a336abdf25fd60b3831507e7e9aa45eeafeedac1770a884934312", func := "loop.example/g00049/laws.FnShares", spec := "fnShares", inPlace := ["internal/reflectlite.ValueOf", "(internal/reflectlite.Value).Type", "(internal/reflectlite.Value).IsNil", "internal/reflectlite.TypeOf", "(internal/reflectlite.Value).Elem", "(internal/reflectlite.Value).Set"], unfollowed := true, recurses := true, named := ["errors.errorType"], apart := false, laid := [("errors.errorType", laid_errors_errorType)], narrowed := true }
def FnSharesUptoSaid : Prop := fnSharesUptoRow.holds Tryd.pinned (OpenSpec.upto fnSharesSpec)

/-- 'laws.FnExactCheckSum', WHERE WHAT IT READS IS OF BULK AT MOST 1048576: true; the input reads as it did. -/
def fnExactCheckSumUptoRow : OpenClaim := { program := "ytdknclkecbdpgaadoor", sum := "77b7b79fee7a336abdf25fd60b3831507e7e9aa45eeafeedac1770a884934312", func := "loop.example/g00049/laws.FnExactCheckSum", spec := "fnExactCheckSum", inPlace := ["internal/reflectlite.ValueOf", "(internal/reflectlite.Value).Type", "(internal/reflectlite.Value).IsNil", "internal/reflectlite.TypeOf", "(internal/reflectlite.Value).Elem", "(internal/reflectlite.Value).Set"], unfollowed := true, recurses := true, named := ["errors.errorType"], apart := false, laid := [("errors.errorType", laid_errors_errorType)], narrowed := true }
def FnExactCheckSumUptoSaid : Prop := fnExactCheckSumUptoRow.holds Tryd.pinned (OpenSpec.upto fnExactCheckSumSpec)

/-- 'laws.FnExactWriteFrame', WHERE WHAT IT READS IS OF BULK AT MOST 1048576: true; the input reads as it did. -/
def fnExactWriteFrameUptoRow : OpenClaim := { program := "ytdknclkecbdpgaadoor", sum := "77b7b79fee7a336abdf25fd60b3831507e7e9aa45eeafeedac1770a884934312", func := "loop.example/g00049/laws.FnExactWriteFrame", spec := "fnExactWriteFrame", inPlace := ["internal/reflectlite.ValueOf", "(internal/reflectlite.Value).Type", "(internal/reflectlite.Value).IsNil", "internal/reflectlite.TypeOf", "(internal/reflectlite.Value).Elem", "(internal/reflectlite.Value).Set"], unfollowed := true, recurses := true, named := ["errors.errorType"], apart := false, laid := [("errors.errorType", laid_errors_errorType)], narrowed := true }
def FnExactWriteFrameUptoSaid : Prop := fnExactWriteFrameUptoRow.holds Tryd.pinned (OpenSpec.upto fnExactWriteFrameSpec)

/-- 'laws.FnExactReadFrame', WHERE WHAT IT READS IS OF BULK AT MOST 1048576: true; the input reads as it did. -/
def fnExactReadFrameUptoRow : OpenClaim := { program := "ytdknclkecbdpgaadoor", sum := "77b7b79fee7a336abdf25fd60b3831507e7e9aa45eeafeedac1770a884934312", func := "loop.example/g00049/laws.FnExactReadFrame", spec := "fnExactReadFrame", inPlace := ["internal/reflectlite.ValueOf", "(internal/reflectlite.Value).Type", "(internal/reflectlite.Value).IsNil", "internal/reflectlite.TypeOf", "(internal/reflectlite.Value).Elem", "(internal/reflectlite.Value).Set"], unfollowed := true, recurses := true, named := ["errors.errorType"], apart := false, laid := [("errors.errorType", laid_errors_errorType)], narrowed := true }
def FnExactReadFrameUptoSaid : Prop := fnExactReadFrameUptoRow.holds Tryd.pinned (OpenSpec.upto fnExactReadFrameSpec)

/-- 'laws.FnExactReadStream', WHERE WHAT IT READS IS OF BULK AT MOST 1048576: true; the input reads as it did. -/
def fnExactReadStreamUptoRow : OpenClaim := { program := "ytdknclkecbdpgaadoor", sum := "77b7b79fee7a336abdf25fd60b3831507e7e9aa45eeafeedac1770a884934312", func := "loop.example/g00049/laws.FnExactReadStream", spec := "fnExactReadStream", inPlace := ["internal/reflectlite.ValueOf", "(internal/reflectlite.Value).Type", "(internal/reflectlite.Value).IsNil", "internal/reflectlite.TypeOf", "(internal/reflectlite.Value).Elem", "(internal/reflectlite.Value).Set"], unfollowed := true, recurses := true, named := ["errors.errorType"], apart := false, laid := [("errors.errorType", laid_errors_errorType)], narrowed := true }
def FnExactReadStreamUptoSaid : Prop := fnExactReadStreamUptoRow.holds Tryd.pinned (OpenSpec.upto fnExactReadStreamSpec)

/-- 'laws.FnExactHamEncode', WHERE WHAT IT READS IS OF BULK AT MOST 1048576: true; the input reads as it did. -/
def fnExactHamEncodeUptoRow : OpenClaim := { program := "ytdknclkecbdpgaadoor", sum := "77b7b79fee7a336abdf25fd60b3831507e7e9aa45eeafeedac1770a884934312", func := "loop.example/g00049/laws.FnExactHamEncode", spec := "fnExactHamEncode", inPlace := ["internal/reflectlite.ValueOf", "(internal/reflectlite.Value).Type", "(internal/reflectlite.Value).IsNil", "internal/reflectlite.TypeOf", "(internal/reflectlite.Value).Elem", "(internal/reflectlite.Value).Set"], unfollowed := true, recurses := true, named := ["errors.errorType"], apart := false, laid := [("errors.errorType", laid_errors_errorType)], narrowed := true }
def FnExactHamEncodeUptoSaid : Prop := fnExactHamEncodeUptoRow.holds Tryd.pinned (OpenSpec.upto fnExactHamEncodeSpec)

/-- 'laws.FnExactScramble', WHERE WHAT IT READS IS OF BULK AT MOST 1048576: true; the input reads as it did. -/
def fnExactScrambleUptoRow : OpenClaim := { program := "ytdknclkecbdpgaadoor", sum := "77b7b79fee7a336abdf25fd60b3831507e7e9aa45eeafeedac1770a884934312", func := "loop.example/g00049/laws.FnExactScramble", spec := "fnExactScramble", inPlace := ["internal/reflectlite.ValueOf", "(internal/reflectlite.Value).Type", "(internal/reflectlite.Value).IsNil", "internal/reflectlite.TypeOf", "(internal/reflectlite.Value).Elem", "(internal/reflectlite.Value).Set"], unfollowed := true, recurses := true, named := ["errors.errorType"], apart := false, laid := [("errors.errorType", laid_errors_errorType)], narrowed := true }
def FnExactScrambleUptoSaid : Prop := fnExactScrambleUptoRow.holds Tryd.pinned (OpenSpec.upto fnExactScrambleSpec)

/-- 'laws.FnExactInterleave', WHERE WHAT IT READS IS OF BULK AT MOST 1048576: true; the input reads as it did. -/
def fnExactInterleaveUptoRow : OpenClaim := { program := "ytdknclkecbdpgaadoor", sum := "77b7b79fee7a336abdf25fd60b3831507e7e9aa45eeafeedac1770a884934312", func := "loop.example/g00049/laws.FnExactInterleave", spec := "fnExactInterleave", inPlace := ["internal/reflectlite.ValueOf", "(internal/reflectlite.Value).Type", "(internal/reflectlite.Value).IsNil", "internal/reflectlite.TypeOf", "(internal/reflectlite.Value).Elem", "(internal/reflectlite.Value).Set"], unfollowed := true, recurses := true, named := ["errors.errorType"], apart := false, laid := [("errors.errorType", laid_errors_errorType)], narrowed := true }
def FnExactInterleaveUptoSaid : Prop := fnExactInterleaveUptoRow.holds Tryd.pinned (OpenSpec.upto fnExactInterleaveSpec)

/-- 'laws.FnExactWeave', WHERE WHAT IT READS IS OF BULK AT MOST 1048576: true; the input reads as it did. -/
def fnExactWeaveUptoRow : OpenClaim := { program := "ytdknclkecbdpgaadoor", sum := "77b7b79fee7a336abdf25fd60b3831507e7e9aa45eeafeedac1770a884934312", func := "loop.example/g00049/laws.FnExactWeave", spec := "fnExactWeave", inPlace := ["internal/reflectlite.ValueOf", "(internal/reflectlite.Value).Type", "(internal/reflectlite.Value).IsNil", "internal/reflectlite.TypeOf", "(internal/reflectlite.Value).Elem", "(internal/reflectlite.Value).Set"], unfollowed := true, recurses := true, named := ["errors.errorType"], apart := false, laid := [("errors.errorType", laid_errors_errorType)], narrowed := true }
def FnExactWeaveUptoSaid : Prop := fnExactWeaveUptoRow.holds Tryd.pinned (OpenSpec.upto fnExactWeaveSpec)

/-- 'laws.FnExactPhaseEncode', WHERE WHAT IT READS IS OF BULK AT MOST 1048576: true; the input reads as it did. -/
def fnExactPhaseEncodeUptoRow : OpenClaim := { program := "ytdknclkecbdpgaadoor", sum := "77b7b79fee7a336abdf25fd60b3831507e7e9aa45eeafeedac1770a884934312", func := "loop.example/g00049/laws.FnExactPhaseEncode", spec := "fnExactPhaseEncode", inPlace := ["internal/reflectlite.ValueOf", "(internal/reflectlite.Value).Type", "(internal/reflectlite.Value).IsNil", "internal/reflectlite.TypeOf", "(internal/reflectlite.Value).Elem", "(internal/reflectlite.Value).Set"], unfollowed := true, recurses := true, named := ["errors.errorType"], apart := false, laid := [("errors.errorType", laid_errors_errorType)], narrowed := true }
def FnExactPhaseEncodeUptoSaid : Prop := fnExactPhaseEncodeUptoRow.holds Tryd.pinned (OpenSpec.upto fnExactPhaseEncodeSpec)

/-- 'laws.FnExactPhaseDecode', WHERE WHAT IT READS IS OF BULK AT MOST 1048576: true; the input reads as it did. -/
def fnExactPhaseDecodeUptoRow : OpenClaim := { program := "ytdknclkecbdpgaadoor", sum := "77b7b79fee7a336abdf25fd60b3831507e7e9aa45eeafeedac1770a884934312", func := "loop.example/g00049/laws.FnExactPhaseDecode", spec := "fnExactPhaseDecode", inPlace := ["internal/reflectlite.ValueOf", "(internal/reflectlite.Value).Type", "(internal/reflectlite.Value).IsNil", "internal/reflectlite.TypeOf", "(internal/reflectlite.Value).Elem", "(internal/reflectlite.Value).Set"], unfollowed := true, recurses := true, named := ["errors.errorType"], apart := false, laid := [("errors.errorType", laid_errors_errorType)], narrowed := true }
def FnExactPhaseDecodeUptoSaid : Prop := fnExactPhaseDecodeUptoRow.holds Tryd.pinned (OpenSpec.upto fnExactPhaseDecodeSpec)

/-- 'laws.FnExactShareOut', WHERE WHAT IT READS IS OF BULK AT MOST 1048576: true; the input reads as it did. -/
def fnExactShareOutUptoRow : OpenClaim := { program := "ytdknclkecbdpgaadoor", sum := "77b7b79fee7a336abdf25fd60b3831507e7e9aa45eeafeedac1770a884934312", func := "loop.example/g00049/laws.FnExactShareOut", spec := "fnExactShareOut", inPlace := ["internal/reflectlite.ValueOf", "(internal/reflectlite.Value).Type", "(internal/reflectlite.Value).IsNil", "internal/reflectlite.TypeOf", "(internal/reflectlite.Value).Elem", "(internal/reflectlite.Value).Set"], unfollowed := true, recurses := true, named := ["errors.errorType"], apart := false, laid := [("errors.errorType", laid_errors_errorType)], narrowed := true }
def FnExactShareOutUptoSaid : Prop := fnExactShareOutUptoRow.holds Tryd.pinned (OpenSpec.upto fnExactShareOutSpec)

/-- 'laws.FnExactShareIn', WHERE WHAT IT READS IS OF BULK AT MOST 1048576: true; the input reads as it did. -/
def fnExactShareInUptoRow : OpenClaim := { program := "ytdknclkecbdpgaadoor", sum := "77b7b79fee7a336abdf25fd60b3831507e7e9aa45eeafeedac1770a884934312", func := "loop.example/g00049/laws.FnExactShareIn", spec := "fnExactShareIn", inPlace := ["internal/reflectlite.ValueOf", "(internal/reflectlite.Value).Type", "(internal/reflectlite.Value).IsNil", "internal/reflectlite.TypeOf", "(internal/reflectlite.Value).Elem", "(internal/reflectlite.Value).Set"], unfollowed := true, recurses := true, named := ["errors.errorType"], apart := false, laid := [("errors.errorType", laid_errors_errorType)], narrowed := true }
def FnExactShareInUptoSaid : Prop := fnExactShareInUptoRow.holds Tryd.pinned (OpenSpec.upto fnExactShareInSpec)

end Rows
end Go.Proofs.YtdknclkecbdpgaaDoor
