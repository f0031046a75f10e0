/- SlotMap, its code a letter. -/
import Derived.Test.YtnkjieindcdimaaSx
namespace Go.Proofs.Ytnkjieindcdimaa
open Go.RowKit
set_option linter.unusedVariables false
theorem sSm_c {w : World} {ao lo : Option Addr} {nf cp n cl : Nat} {nodes slots : Int} {F : Nat → Fb} {L : Nat → Li} {c : Int} (hc : c = Nt.lfault nodes slots nf F n L) (h : Rf w (.slice ao nf cp) nf F) (hl : RdL w (.slice lo n cl) n L) (hf : nf ≤ 1048576) (hw : LFew n L) :
    Calls Try.prog 34 #[.agg #[.int .i64 nodes, .int .i64 slots, .slice ao nf cp], .slice lo n cl] w fun e w' => ∃ v, e = .returned (.agg #[.int .i64 c, v]) ∧ OutM w' c v nf slots.toNat (fun f s => Nt.bk L n f s) ∧ Below w.heap.size w w' := by
  subst hc
  exact sSm_any h hl hf hw
theorem iSm_c {w : World} {ao lo : Option Addr} {nf cp n cl : Nat} {nodes slots : Int} {F : Nat → Fb} {L : Nat → Li} {c : Int} (hc : c = Nt.lfault nodes slots nf F n L) (h : Rf w (.slice ao nf cp) nf F) (hl : RdL w (.slice lo n cl) n L) (hf : nf ≤ 1048576) (hw : LFew n L) (hcp : nf ≤ cp) (hd : LBd n L) :
    Calls Try.prog 35 #[.agg #[.int .i64 nodes, .int .i64 slots, .slice ao nf cp], .slice lo n cl] w fun e w' => ∃ v, e = .returned (.agg #[.int .i64 c, v]) ∧ OwnM w.heap.size w'.heap.size w' c v nf slots.toNat (fun f s => Nt.bk L n f s) ∧ Below w.heap.size w w' := by
  subst hc
  exact iSm_any h hl hf hw hcp hd
theorem sm_few {nodes slots : Int} {nf : Nat} {F : Nat → Fb} {n : Nat} {L : Nat → Li} {c : Int} (hc : c = Nt.lfault nodes slots nf F n L) (hz : c = 0) : nf ≤ 1000 ∧ slots.toNat ≤ 1000 := by
  have G := (lf_good (by rw [← hc]; exact hz)).1
  have g1 := G.f14
  have g2 := G.s64
  omega
end Go.Proofs.Ytnkjieindcdimaa
