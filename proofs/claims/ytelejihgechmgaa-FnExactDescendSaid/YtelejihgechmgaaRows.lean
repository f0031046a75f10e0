/-
  No cell of these rows narrows 'for every input' (looked for: loops, veiled, ifaces, maps, wideKeys, modest, calm, conditions, laid).
  DERIVED. THE GIVEN ROWS OF THIS SEAT. 10 by the template 'for every input the law returns true; each argument reads behind the call as it read before'; 0 by the template 'total and deterministic' (their statements: YtelejihgechmgaaTotals.lean).
  GIVEN WITH THE SEED: the statements are not yours to turn. If you find one false, say at which input.
  Laid BY PROGRAM, IN A SANDBOX (cutbox-rows.mjs): the forced cells as the released guide's own fill.sh prints them over the translation 96014e9d55bb7846… (all of the seat's roots in one cut). By AI agents, Wed Nov 11 2026. No macro, syntax, notation, axiom, sorry.
-/
import Derived.Test.YtelejihgechmgaaChecked
import GoSem.Claim
import GoSem.ClaimJoined
import GoSem.ClaimMapViews
import Derived.JoinedTies
import Derived.KernelRfl
namespace Go.Proofs.Ytelejihgechmgaa
/- THE CELL 'sum', in the pinned program and in every row, IS THE sha256 OF THE DUMP (.gsa) THAT YtelejihgechmgaaProg.lean LOADS. Nothing in Lean hashes anything: it is a label: what it is worth is what the hold of that sum in a sandbox is worth. -/
noncomputable def Try.pinned : Pinned := { name := "ytelejihgechmgaa", sum := "96014e9d55bb78460a1359d00da5a14b243c9e5685fa7885ceea3f9c18bc0ad3", checked := Try.checked }
namespace Rows
def none {H : Type} : Left H := { results := [], args := [] }

/-- 'laws.FnExactChainLevels': WHATEVER THE INPUT: true; the input reads as it did. -/
def fnExactChainLevelsSpec : ChangeSpec := { name := "fnExactChainLevels", fn := fun _ => fun
  | [d1, d2] => { results := [.lit (.bool true)], args := [d1, d2] }
  | _ => none }
def fnExactChainLevelsRow : OpenClaim := { program := "ytelejihgechmgaa", sum := "96014e9d55bb78460a1359d00da5a14b243c9e5685fa7885ceea3f9c18bc0ad3", func := "loop.example/g00049/laws.FnExactChainLevels", spec := "fnExactChainLevels", unfollowed := true, recurses := true, leaving := true, apart := false }
def FnExactChainLevelsSaid : Prop := fnExactChainLevelsRow.holds Try.pinned (OpenSpec.ofChange fnExactChainLevelsSpec)

/-- ITS FALSE NEIGHBOUR: 'it returns false'. Refute it at one input. -/
def fnExactChainLevelsWrong : ChangeSpec := { name := "fnExactChainLevels", fn := fun _ => fun
  | [d1, d2] => { results := [.lit (.bool false)], args := [d1, d2] }
  | _ => none }
def FnExactChainLevelsWrongFalsely : Prop := fnExactChainLevelsRow.holds Try.pinned (OpenSpec.ofChange fnExactChainLevelsWrong)

/-- 'laws.FnExactMarginOf': WHATEVER THE INPUT: true; the input reads as it did. -/
def fnExactMarginOfSpec : ChangeSpec := { name := "fnExactMarginOf", fn := fun _ => fun
  | [d1, d2, d3] => { results := [.lit (.bool true)], args := [d1, d2, d3] }
  | _ => none }
def fnExactMarginOfRow : OpenClaim := { program := "ytelejihgechmgaa", sum := "96014e9d55bb78460a1359d00da5a14b243c9e5685fa7885ceea3f9c18bc0ad3", func := "loop.example/g00049/laws.FnExactMarginOf", spec := "fnExactMarginOf", unfollowed := true, recurses := true, leaving := true, apart := false }
def FnExactMarginOfSaid : Prop := fnExactMarginOfRow.holds Try.pinned (OpenSpec.ofChange fnExactMarginOfSpec)

/-- ITS FALSE NEIGHBOUR: 'it returns false'. Refute it at one input. -/
def fnExactMarginOfWrong : ChangeSpec := { name := "fnExactMarginOf", fn := fun _ => fun
  | [d1, d2, d3] => { results := [.lit (.bool false)], args := [d1, d2, d3] }
  | _ => none }
def FnExactMarginOfWrongFalsely : Prop := fnExactMarginOfRow.holds Try.pinned (OpenSpec.ofChange fnExactMarginOfWrong)

/-- 'laws.FnExactJoinChains': WHATEVER THE INPUT: true; the input reads as it did. -/
def fnExactJoinChainsSpec : ChangeSpec := { name := "fnExactJoinChains", fn := fun _ => fun
  | [d1, d2] => { results := [.lit (.bool true)], args := [d1, d2] }
  | _ => none }
def fnExactJoinChainsRow : OpenClaim := { program := "ytelejihgechmgaa", sum := "96014e9d55bb78460a1359d00da5a14b243c9e5685fa7885ceea3f9c18bc0ad3", func := "loop.example/g00049/laws.FnExactJoinChains", spec := "fnExactJoinChains", apart := false }
def FnExactJoinChainsSaid : Prop := fnExactJoinChainsRow.holds Try.pinned (OpenSpec.ofChange fnExactJoinChainsSpec)

/-- ITS FALSE NEIGHBOUR: 'it returns false'. Refute it at one input. -/
def fnExactJoinChainsWrong : ChangeSpec := { name := "fnExactJoinChains", fn := fun _ => fun
  | [d1, d2] => { results := [.lit (.bool false)], args := [d1, d2] }
  | _ => none }
def FnExactJoinChainsWrongFalsely : Prop := fnExactJoinChainsRow.holds Try.pinned (OpenSpec.ofChange fnExactJoinChainsWrong)

/-- 'laws.FnExactAimsFault': WHATEVER THE INPUT: true; the input reads as it did. -/
def fnExactAimsFaultSpec : ChangeSpec := { name := "fnExactAimsFault", fn := fun _ => fun
  | [d1, d2] => { results := [.lit (.bool true)], args := [d1, d2] }
  | _ => none }
def fnExactAimsFaultRow : OpenClaim := { program := "ytelejihgechmgaa", sum := "96014e9d55bb78460a1359d00da5a14b243c9e5685fa7885ceea3f9c18bc0ad3", func := "loop.example/g00049/laws.FnExactAimsFault", spec := "fnExactAimsFault", unfollowed := true, recurses := true, leaving := true, apart := false }
def FnExactAimsFaultSaid : Prop := fnExactAimsFaultRow.holds Try.pinned (OpenSpec.ofChange fnExactAimsFaultSpec)

/-- ITS FALSE NEIGHBOUR: 'it returns false'. Refute it at one input. -/
def fnExactAimsFaultWrong : ChangeSpec := { name := "fnExactAimsFault", fn := fun _ => fun
  | [d1, d2] => { results := [.lit (.bool false)], args := [d1, d2] }
  | _ => none }
def FnExactAimsFaultWrongFalsely : Prop := fnExactAimsFaultRow.holds Try.pinned (OpenSpec.ofChange fnExactAimsFaultWrong)

/-- 'laws.FnExactMeritAt': WHATEVER THE INPUT: true; the input reads as it did. -/
def fnExactMeritAtSpec : ChangeSpec := { name := "fnExactMeritAt", fn := fun _ => fun
  | [d1, d2] => { results := [.lit (.bool true)], args := [d1, d2] }
  | _ => none }
def fnExactMeritAtRow : OpenClaim := { program := "ytelejihgechmgaa", sum := "96014e9d55bb78460a1359d00da5a14b243c9e5685fa7885ceea3f9c18bc0ad3", func := "loop.example/g00049/laws.FnExactMeritAt", spec := "fnExactMeritAt", unfollowed := true, recurses := true, leaving := true, apart := false }
def FnExactMeritAtSaid : Prop := fnExactMeritAtRow.holds Try.pinned (OpenSpec.ofChange fnExactMeritAtSpec)

/-- ITS FALSE NEIGHBOUR: 'it returns false'. Refute it at one input. -/
def fnExactMeritAtWrong : ChangeSpec := { name := "fnExactMeritAt", fn := fun _ => fun
  | [d1, d2] => { results := [.lit (.bool false)], args := [d1, d2] }
  | _ => none }
def FnExactMeritAtWrongFalsely : Prop := fnExactMeritAtRow.holds Try.pinned (OpenSpec.ofChange fnExactMeritAtWrong)

/-- 'laws.FnExactDescend': WHATEVER THE INPUT: true; the input reads as it did. -/
def fnExactDescendSpec : ChangeSpec := { name := "fnExactDescend", fn := fun _ => fun
  | [d1, d2, d3, d4] => { results := [.lit (.bool true)], args := [d1, d2, d3, d4] }
  | _ => none }
def fnExactDescendRow : OpenClaim := { program := "ytelejihgechmgaa", sum := "96014e9d55bb78460a1359d00da5a14b243c9e5685fa7885ceea3f9c18bc0ad3", func := "loop.example/g00049/laws.FnExactDescend", spec := "fnExactDescend", unfollowed := true, recurses := true, leaving := true, apart := false }
def FnExactDescendSaid : Prop := fnExactDescendRow.holds Try.pinned (OpenSpec.ofChange fnExactDescendSpec)

/-- ITS FALSE NEIGHBOUR: 'it returns false'. Refute it at one input. -/
def fnExactDescendWrong : ChangeSpec := { name := "fnExactDescend", fn := fun _ => fun
  | [d1, d2, d3, d4] => { results := [.lit (.bool false)], args := [d1, d2, d3, d4] }
  | _ => none }
def FnExactDescendWrongFalsely : Prop := fnExactDescendRow.holds Try.pinned (OpenSpec.ofChange fnExactDescendWrong)

/-- 'laws.FnExactCheckDescent': WHATEVER THE INPUT: true; the input reads as it did. -/
def fnExactCheckDescentSpec : ChangeSpec := { name := "fnExactCheckDescent", fn := fun _ => fun
  | [d1, d2] => { results := [.lit (.bool true)], args := [d1, d2] }
  | _ => none }
def fnExactCheckDescentRow : OpenClaim := { program := "ytelejihgechmgaa", sum := "96014e9d55bb78460a1359d00da5a14b243c9e5685fa7885ceea3f9c18bc0ad3", func := "loop.example/g00049/laws.FnExactCheckDescent", spec := "fnExactCheckDescent", unfollowed := true, recurses := true, leaving := true, apart := false }
def FnExactCheckDescentSaid : Prop := fnExactCheckDescentRow.holds Try.pinned (OpenSpec.ofChange fnExactCheckDescentSpec)

/-- ITS FALSE NEIGHBOUR: 'it returns false'. Refute it at one input. -/
def fnExactCheckDescentWrong : ChangeSpec := { name := "fnExactCheckDescent", fn := fun _ => fun
  | [d1, d2] => { results := [.lit (.bool false)], args := [d1, d2] }
  | _ => none }
def FnExactCheckDescentWrongFalsely : Prop := fnExactCheckDescentRow.holds Try.pinned (OpenSpec.ofChange fnExactCheckDescentWrong)

/-- 'laws.FnExactSearchMerit': WHATEVER THE INPUT: true; the input reads as it did. -/
def fnExactSearchMeritSpec : ChangeSpec := { name := "fnExactSearchMerit", fn := fun _ => fun
  | [d1, d2, d3, d4, d5] => { results := [.lit (.bool true)], args := [d1, d2, d3, d4, d5] }
  | _ => none }
def fnExactSearchMeritRow : OpenClaim := { program := "ytelejihgechmgaa", sum := "96014e9d55bb78460a1359d00da5a14b243c9e5685fa7885ceea3f9c18bc0ad3", func := "loop.example/g00049/laws.FnExactSearchMerit", spec := "fnExactSearchMerit", unfollowed := true, recurses := true, leaving := true, apart := false }
def FnExactSearchMeritSaid : Prop := fnExactSearchMeritRow.holds Try.pinned (OpenSpec.ofChange fnExactSearchMeritSpec)

/-- ITS FALSE NEIGHBOUR: 'it returns false'. Refute it at one input. -/
def fnExactSearchMeritWrong : ChangeSpec := { name := "fnExactSearchMerit", fn := fun _ => fun
  | [d1, d2, d3, d4, d5] => { results := [.lit (.bool false)], args := [d1, d2, d3, d4, d5] }
  | _ => none }
def FnExactSearchMeritWrongFalsely : Prop := fnExactSearchMeritRow.holds Try.pinned (OpenSpec.ofChange fnExactSearchMeritWrong)

/-- 'laws.FnExactWorstCorner': WHATEVER THE INPUT: true; the input reads as it did. -/
def fnExactWorstCornerSpec : ChangeSpec := { name := "fnExactWorstCorner", fn := fun _ => fun
  | [d1, d2, d3] => { results := [.lit (.bool true)], args := [d1, d2, d3] }
  | _ => none }
def fnExactWorstCornerRow : OpenClaim := { program := "ytelejihgechmgaa", sum := "96014e9d55bb78460a1359d00da5a14b243c9e5685fa7885ceea3f9c18bc0ad3", func := "loop.example/g00049/laws.FnExactWorstCorner", spec := "fnExactWorstCorner", unfollowed := true, recurses := true, leaving := true, apart := false }
def FnExactWorstCornerSaid : Prop := fnExactWorstCornerRow.holds Try.pinned (OpenSpec.ofChange fnExactWorstCornerSpec)

/-- ITS FALSE NEIGHBOUR: 'it returns false'. Refute it at one input. -/
def fnExactWorstCornerWrong : ChangeSpec := { name := "fnExactWorstCorner", fn := fun _ => fun
  | [d1, d2, d3] => { results := [.lit (.bool false)], args := [d1, d2, d3] }
  | _ => none }
def FnExactWorstCornerWrongFalsely : Prop := fnExactWorstCornerRow.holds Try.pinned (OpenSpec.ofChange fnExactWorstCornerWrong)

/-- 'laws.FnExactTrialsOf': WHATEVER THE INPUT: true; the input reads as it did. -/
def fnExactTrialsOfSpec : ChangeSpec := { name := "fnExactTrialsOf", fn := fun _ => fun
  | [d1, d2, d3, d4, d5] => { results := [.lit (.bool true)], args := [d1, d2, d3, d4, d5] }
  | _ => none }
def fnExactTrialsOfRow : OpenClaim := { program := "ytelejihgechmgaa", sum := "96014e9d55bb78460a1359d00da5a14b243c9e5685fa7885ceea3f9c18bc0ad3", func := "loop.example/g00049/laws.FnExactTrialsOf", spec := "fnExactTrialsOf", inPlace := ["sync/atomic.AddInt64", "(*sync.WaitGroup).Go", "(*sync.WaitGroup).Add", "internal/race.ReleaseMerge", "internal/race.Disable", "internal/race.Enable", "internal/synctest.IsInBubble", "internal/synctest.Associate[sync.WaitGroup]", "sync.fatal", "sync/atomic.OrUint64", "sync/atomic.AddUint64", "internal/race.Read", "sync/atomic.LoadUint64", "sync/atomic.StoreUint64", "internal/synctest.Disassociate[sync.WaitGroup]", "sync.runtime_Semrelease", "(*sync.WaitGroup).Go$1", "(*sync.WaitGroup).Go$1$1", "(*sync.WaitGroup).Done", "(*sync.WaitGroup).Wait", "internal/race.Acquire", "internal/synctest.IsAssociated[sync.WaitGroup]", "sync/atomic.CompareAndSwapUint64", "internal/race.Write", "sync.runtime_SemacquireWaitGroup"], unfollowed := true, recurses := true, leaving := true, apart := false }
def FnExactTrialsOfSaid : Prop := fnExactTrialsOfRow.holds Try.pinned (OpenSpec.ofChange fnExactTrialsOfSpec)

/-- ITS FALSE NEIGHBOUR: 'it returns false'. Refute it at one input. -/
def fnExactTrialsOfWrong : ChangeSpec := { name := "fnExactTrialsOf", fn := fun _ => fun
  | [d1, d2, d3, d4, d5] => { results := [.lit (.bool false)], args := [d1, d2, d3, d4, d5] }
  | _ => none }
def FnExactTrialsOfWrongFalsely : Prop := fnExactTrialsOfRow.holds Try.pinned (OpenSpec.ofChange fnExactTrialsOfWrong)

/- THE SECOND FORM. 'bulk': how many values and letters a reading holds, each counted each time it is reached (what is shared counts as often as it is met; a slice's spare places count too). A statement '..UptoSaid' is the law's where the arguments, and the package variables that the reading takes, are together of bulk at most 1048576: NARROWER than '..Said'. Prove '..Said' where nothing that the law and all that it calls make is longer than what came in: it says more and counts as full. Else prove '..UptoSaid'. A law counts once. -/
mutual
def uptoBulk {H : Type} : DataW H → Nat
  | .lit (.string bytes) => bytes.length + 1
  | .lit _ => 1
  | .nil => 1
  | .ptr d => uptoBulk d + 1
  | .slice elems spare => uptoBulkAll elems + uptoBulkAll spare + 1
  | .agg parts => uptoBulkAll parts + 1
  | .iface _ d => uptoBulk d + 1
  | .map entries => uptoBulkEntries entries + 1
  | .held _ => 1
def uptoBulkAll {H : Type} : List (DataW H) → Nat
  | [] => 0
  | d :: r => uptoBulk d + uptoBulkAll r
def uptoBulkEntries {H : Type} : List (Lit × DataW H) → Nat
  | [] => 0
  | x :: r => uptoBulkEntry x + uptoBulkEntries r
def uptoBulkEntry {H : Type} : Lit × DataW H → Nat
  | (.string bytes, d) => bytes.length + uptoBulk d + 1
  | (_, d) => uptoBulk d + 1
 end
def uptoSmall : (H : Type) → List (DataW H) → Bool := fun _ ds => decide (uptoBulkAll ds ≤ 1048576)
def OpenSpec.upto (s : _root_.Go.ChangeSpec) : _root_.Go.OpenSpec := { _root_.Go.OpenSpec.ofChange s with cond := some uptoSmall }

/-- 'laws.FnExactChainLevels', WHERE WHAT IT READS IS OF BULK AT MOST 1048576: true; the input reads as it did. -/
def fnExactChainLevelsUptoRow : OpenClaim := { program := "ytelejihgechmgaa", sum := "96014e9d55bb78460a1359d00da5a14b243c9e5685fa7885ceea3f9c18bc0ad3", func := "loop.example/g00049/laws.FnExactChainLevels", spec := "fnExactChainLevels", unfollowed := true, recurses := true, leaving := true, apart := false, narrowed := true }
def FnExactChainLevelsUptoSaid : Prop := fnExactChainLevelsUptoRow.holds Try.pinned (OpenSpec.upto fnExactChainLevelsSpec)

/-- 'laws.FnExactMarginOf', WHERE WHAT IT READS IS OF BULK AT MOST 1048576: true; the input reads as it did. -/
def fnExactMarginOfUptoRow : OpenClaim := { program := "ytelejihgechmgaa", sum := "96014e9d55bb78460a1359d00da5a14b243c9e5685fa7885ceea3f9c18bc0ad3", func := "loop.example/g00049/laws.FnExactMarginOf", spec := "fnExactMarginOf", unfollowed := true, recurses := true, leaving := true, apart := false, narrowed := true }
def FnExactMarginOfUptoSaid : Prop := fnExactMarginOfUptoRow.holds Try.pinned (OpenSpec.upto fnExactMarginOfSpec)

/-- 'laws.FnExactJoinChains', WHERE WHAT IT READS IS OF BULK AT MOST 1048576: true; the input reads as it did. -/
def fnExactJoinChainsUptoRow : OpenClaim := { program := "ytelejihgechmgaa", sum := "96014e9d55bb78460a1359d00da5a14b243c9e5685fa7885ceea3f9c18bc0ad3", func := "loop.example/g00049/laws.FnExactJoinChains", spec := "fnExactJoinChains", apart := false, narrowed := true }
def FnExactJoinChainsUptoSaid : Prop := fnExactJoinChainsUptoRow.holds Try.pinned (OpenSpec.upto fnExactJoinChainsSpec)

/-- 'laws.FnExactAimsFault', WHERE WHAT IT READS IS OF BULK AT MOST 1048576: true; the input reads as it did. -/
def fnExactAimsFaultUptoRow : OpenClaim := { program := "ytelejihgechmgaa", sum := "96014e9d55bb78460a1359d00da5a14b243c9e5685fa7885ceea3f9c18bc0ad3", func := "loop.example/g00049/laws.FnExactAimsFault", spec := "fnExactAimsFault", unfollowed := true, recurses := true, leaving := true, apart := false, narrowed := true }
def FnExactAimsFaultUptoSaid : Prop := fnExactAimsFaultUptoRow.holds Try.pinned (OpenSpec.upto fnExactAimsFaultSpec)

/-- 'laws.FnExactMeritAt', WHERE WHAT IT READS IS OF BULK AT MOST 1048576: true; the input reads as it did. -/
def fnExactMeritAtUptoRow : OpenClaim := { program := "ytelejihgechmgaa", sum := "96014e9d55bb78460a1359d00da5a14b243c9e5685fa7885ceea3f9c18bc0ad3", func := "loop.example/g00049/laws.FnExactMeritAt", spec := "fnExactMeritAt", unfollowed := true, recurses := true, leaving := true, apart := false, narrowed := true }
def FnExactMeritAtUptoSaid : Prop := fnExactMeritAtUptoRow.holds Try.pinned (OpenSpec.upto fnExactMeritAtSpec)

/-- 'laws.FnExactDescend', WHERE WHAT IT READS IS OF BULK AT MOST 1048576: true; the input reads as it did. -/
def fnExactDescendUptoRow : OpenClaim := { program := "ytelejihgechmgaa", sum := "96014e9d55bb78460a1359d00da5a14b243c9e5685fa7885ceea3f9c18bc0ad3", func := "loop.example/g00049/laws.FnExactDescend", spec := "fnExactDescend", unfollowed := true, recurses := true, leaving := true, apart := false, narrowed := true }
def FnExactDescendUptoSaid : Prop := fnExactDescendUptoRow.holds Try.pinned (OpenSpec.upto fnExactDescendSpec)

/-- 'laws.FnExactCheckDescent', WHERE WHAT IT READS IS OF BULK AT MOST 1048576: true; the input reads as it did. -/
def fnExactCheckDescentUptoRow : OpenClaim := { program := "ytelejihgechmgaa", sum := "96014e9d55bb78460a1359d00da5a14b243c9e5685fa7885ceea3f9c18bc0ad3", func := "loop.example/g00049/laws.FnExactCheckDescent", spec := "fnExactCheckDescent", unfollowed := true, recurses := true, leaving := true, apart := false, narrowed := true }
def FnExactCheckDescentUptoSaid : Prop := fnExactCheckDescentUptoRow.holds Try.pinned (OpenSpec.upto fnExactCheckDescentSpec)

/-- 'laws.FnExactSearchMerit', WHERE WHAT IT READS IS OF BULK AT MOST 1048576: true; the input reads as it did. -/
def fnExactSearchMeritUptoRow : OpenClaim := { program := "ytelejihgechmgaa", sum := "96014e9d55bb78460a1359d00da5a14b243c9e5685fa7885ceea3f9c18bc0ad3", func := "loop.example/g00049/laws.FnExactSearchMerit", spec := "fnExactSearchMerit", unfollowed := true, recurses := true, leaving := true, apart := false, narrowed := true }
def FnExactSearchMeritUptoSaid : Prop := fnExactSearchMeritUptoRow.holds Try.pinned (OpenSpec.upto fnExactSearchMeritSpec)

/-- 'laws.FnExactWorstCorner', WHERE WHAT IT READS IS OF BULK AT MOST 1048576: true; the input reads as it did. -/
def fnExactWorstCornerUptoRow : OpenClaim := { program := "ytelejihgechmgaa", sum := "96014e9d55bb78460a1359d00da5a14b243c9e5685fa7885ceea3f9c18bc0ad3", func := "loop.example/g00049/laws.FnExactWorstCorner", spec := "fnExactWorstCorner", unfollowed := true, recurses := true, leaving := true, apart := false, narrowed := true }
def FnExactWorstCornerUptoSaid : Prop := fnExactWorstCornerUptoRow.holds Try.pinned (OpenSpec.upto fnExactWorstCornerSpec)

/-- 'laws.FnExactTrialsOf', WHERE WHAT IT READS IS OF BULK AT MOST 1048576: true; the input reads as it did. -/
def fnExactTrialsOfUptoRow : OpenClaim := { program := "ytelejihgechmgaa", sum := "96014e9d55bb78460a1359d00da5a14b243c9e5685fa7885ceea3f9c18bc0ad3", func := "loop.example/g00049/laws.FnExactTrialsOf", spec := "fnExactTrialsOf", inPlace := ["sync/atomic.AddInt64", "(*sync.WaitGroup).Go", "(*sync.WaitGroup).Add", "internal/race.ReleaseMerge", "internal/race.Disable", "internal/race.Enable", "internal/synctest.IsInBubble", "internal/synctest.Associate[sync.WaitGroup]", "sync.fatal", "sync/atomic.OrUint64", "sync/atomic.AddUint64", "internal/race.Read", "sync/atomic.LoadUint64", "sync/atomic.StoreUint64", "internal/synctest.Disassociate[sync.WaitGroup]", "sync.runtime_Semrelease", "(*sync.WaitGroup).Go$1", "(*sync.WaitGroup).Go$1$1", "(*sync.WaitGroup).Done", "(*sync.WaitGroup).Wait", "internal/race.Acquire", "internal/synctest.IsAssociated[sync.WaitGroup]", "sync/atomic.CompareAndSwapUint64", "internal/race.Write", "sync.runtime_SemacquireWaitGroup"], unfollowed := true, recurses := true, leaving := true, apart := false, narrowed := true }
def FnExactTrialsOfUptoSaid : Prop := fnExactTrialsOfUptoRow.holds Try.pinned (OpenSpec.upto fnExactTrialsOfSpec)

end Rows
end Go.Proofs.Ytelejihgechmgaa
