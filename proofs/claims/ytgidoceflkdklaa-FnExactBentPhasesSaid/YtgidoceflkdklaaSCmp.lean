/- The specification's comparison of floats: a contract. -/
import Derived.Test.YtgidoceflkdklaaCmp
namespace Go.Proofs.Ytgidoceflkdklaa
open Go.RowKit Fl
abbrev Says (f : FuncId) (x : Nat) (b : Bool) : Prop := ∀ w, Calls Try.prog f #[.float .f64 x] w fun e w' => e = .returned (.bool b) ∧ w = w'
theorem nan_t {x : Nat} (hx : x < 18446744073709551616) (n : ¬ Num x) : Says 94 x true := fun w => by
  have := l3NaN_any hx w
  rw [decide_eq_true n] at this
  exact this
theorem nan_f {x : Nat} (hx : x < 18446744073709551616) (n : Num x) : Says 94 x false := fun w => by
  have := l3NaN_any hx w
  rw [decide_eq_false (by simpa using n)] at this
  exact this
end Go.Proofs.Ytgidoceflkdklaa

