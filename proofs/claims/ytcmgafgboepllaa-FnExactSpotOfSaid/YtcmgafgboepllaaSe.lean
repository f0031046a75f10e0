/- Spots: both ways; what is answered is compared. -/
import Derived.Test.YtcmgafgboepllaaSs
import Derived.Test.YtcmgafgboepllaaSi
import Derived.Test.YtcmgafgboepllaaDm
namespace Go.Proofs.Ytcmgafgboepllaa
open Go.RowKit Fl
set_option linter.unusedVariables false
set_option linter.unusedSimpArgs false
set_option maxRecDepth 20000 in
theorem eqSpot_same {a b : Nat → Nat} {O : Nat → Option Nat} (c : Int) (ha : ∀ j, j < 3 → Fc (a j) (O j)) (hb : ∀ j, j < 3 → Fc (b j) (O j)) (w : World) : Calls Try.prog 14 #[Sp c a, Sp c b] w fun e w' => e = .returned (.bool true) ∧ Below w.heap.size w w' := by
  have H0 : Hid (∀ W, Calls Try.prog 42 #[.float .f64 (a 0), .float .f64 (b 0)] W fun e w' => e = .returned (.bool true) ∧ W = w') := fun W => same_any (ha 0 (by omega)).lx (hb 0 (by omega)).lx ((ha 0 (by omega)).c.trans (hb 0 (by omega)).c.symm) W
  have H1 : Hid (∀ W, Calls Try.prog 42 #[.float .f64 (a 1), .float .f64 (b 1)] W fun e w' => e = .returned (.bool true) ∧ W = w') := fun W => same_any (ha 1 (by omega)).lx (hb 1 (by omega)).lx ((ha 1 (by omega)).c.trans (hb 1 (by omega)).c.symm) W
  have H2 : Hid (∀ W, Calls Try.prog 42 #[.float .f64 (a 2), .float .f64 (b 2)] W fun e w' => e = .returned (.bool true) ∧ W = w') := fun W => same_any (ha 2 (by omega)).lx (hb 2 (by omega)).lx ((ha 2 (by omega)).c.trans (hb 2 (by omega)).c.symm) W
  clear ha hb
  go_enter Try.func14, Try.ntmps14
  go_wp2_with fail
  refine (H0.out _).mono ?_
  rintro e w1 ⟨rfl, rfl⟩
  go_wp2_with fail
  refine (H1.out _).mono ?_
  rintro e w1 ⟨rfl, rfl⟩
  go_wp2_with fail
  refine (H2.out _).mono ?_
  rintro e w1 ⟨rfl, rfl⟩
  go_wp2
  go_ret
  exact ⟨rfl, by go_grown⟩
theorem spot_both (n : Nat) (G : Nat → Nat → Nat) (hn : n ≤ 1000000000000) (hG : ∀ i, i < n → ∀ j, j < 2 → W64 (G i j)) : ∃ (c : Int) (O : Nat → Option Nat),
    (∀ W b, SegV W b 78 n 2 (fun i j => fcl (G i) j) → SV 11 #[.slice (some ⟨b, 0, none⟩) n n] W c O) ∧ (∀ W b, SegV W b 78 n 2 (fun i j => fcl (G i) j) → SV 13 #[.slice (some ⟨b, 0, none⟩) n n] W c O) := by
  by_cases h1 : 400 < n
  · exact ⟨2, fun _ => zO, fun W b _ => sSpot_many _ n n hn h1 W, fun W b _ => iSpot_many _ n n hn h1 W⟩
  by_cases h2 : n = 0
  · subst h2
    exact ⟨1, fun _ => zO, fun W b _ => sSpot_zero _ 0 W, fun W b _ => iSpot_zero _ 0 W⟩
  · exact ⟨0, spC G n, fun W b h => sSpot_ok b 0 n n G W (by omega) (by omega) (fun i hi j hj => by have := h.cell hi hj; simpa using this) hG,
      fun W b h => iSpot_ok b 0 n n G W (by omega) (by omega) (fun i hi j hj => by have := h.cell hi hj; simpa using this) hG⟩
end Go.Proofs.Ytcmgafgboepllaa
