/- From a run after which nobody else is left to the row's words that others may be leaving. -/
import Derived.Test.YtelejihgechmgaaNums
import Derived.Conc.Holds
import Derived.Leaving
namespace Go.Proofs.Ytelejihgechmgaa
open Go.RowKit
theorem leave_of_handed {a : Assume} {C : Checked} {os : Os} {f : FuncId} {r : Reach} {Pre : World → Array Value → Prop} {Post : World → Array Value → Value → World → Prop} (h : ReturnsInHanded a C os f r Pre Post) : ReturnsInLeavingWide a C os f r Pre Post := fun enter =>
  ReturnsInOpen.mono (fun _ _ _ x => ⟨x.2.1, onlyLeaving_of_quiet x.1, x.2.2⟩) (fun _ x => x) (h enter)
end Go.Proofs.Ytelejihgechmgaa
