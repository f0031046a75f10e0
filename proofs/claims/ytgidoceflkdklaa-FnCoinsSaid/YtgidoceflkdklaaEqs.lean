/- The laws' own comparison of lists of floats, at lists that are the same float by float (all NaNs being one): a contract. -/
import Derived.Test.YtgidoceflkdklaaTos
import Derived.BigQuiet
namespace Go.Proofs.Ytgidoceflkdklaa
open Go.RowKit Fl
theorem quiet_eq {P : Program} {f : FuncId} {args : Array Value} {w : World} {n : Nat} {v : Value}
    (h : Calls P f args (w.drewN n) fun e w' => e = .returned v ∧ w.drewN n = w') : Calls P f args (w.drewN n) fun e w'' => e = .returned v ∧ ∃ m, w'' = w.drewN m :=
  h.mono fun _ _ ⟨he, hm⟩ => ⟨he, n, hm.symm⟩
end Go.Proofs.Ytgidoceflkdklaa
