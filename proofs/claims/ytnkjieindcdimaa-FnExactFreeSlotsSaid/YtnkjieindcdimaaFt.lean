/- FreeSlots: how many slots there are. -/
import Derived.Test.YtnkjieindcdimaaFs
namespace Go.Proofs.Ytnkjieindcdimaa
theorem fs_few {nodes slots : Int} {nf : Nat} {F : Nat → Fb} {n : Nat} {L : Nat → Li} {np : Nat} {p : Nat → Int} {c : Int} (hc : c = fscode nodes slots nf F n L np p) (hz : c = 0) : slots.toNat ≤ 1000 := by
  have G := (lf_good (fs_good (by rw [← hc]; exact hz)).1).1
  have g2 := G.s64
  omega
end Go.Proofs.Ytnkjieindcdimaa
