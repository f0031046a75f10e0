/- LightDown's lights are few. -/
import Derived.Test.YtnkjieindcdimaaDm
namespace Go.Proofs.Ytnkjieindcdimaa
open Go.RowKit
set_option linter.unusedVariables false
theorem dn_few {nodes slots id : Int} {nf : Nat} {F : Nat → Fb} {n : Nat} {L : Nat → Li} {c : Int} (hc : c = dcode nodes slots nf F n L id) (hz : c = 0) (hd : LBd n L) : LFew (n - 1) (fun i => L (sk (fnd L id n).toNat i)) := by
  obtain ⟨h1, h2⟩ := dn_zero (hc ▸ hz)
  obtain ⟨g1, g2, g3⟩ := lf_good h1
  obtain ⟨N, t, rfl, ht, hft, _⟩ := found g3 h2
  rw [hft]
  exact few_less (fun i hi => by have := ok_np g1 g3 hi (hd i hi).2.2.2.2.2; have h8 := this.m8; exact h8) g2 (by simpa using ht)
end Go.Proofs.Ytnkjieindcdimaa
