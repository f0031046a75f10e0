/- Floats by their classes; the parts of a glass's formulas. -/
import Derived.Test.YtndfncjoknibaaaDoorSqrt
import Derived.Test.YtndfncjoknibaaaDoorGc
import Derived.Laws.Cover2
import Derived.Laws.FloatArith
import Derived.Deep.RegionHeld3
namespace Go.Proofs.YtndfncjoknibaaaDoor
open Go.RowKit Fl
set_option linter.unusedVariables false
/-- A word and its class. -/
structure Fc (x : Nat) (o : Option Nat) : Prop where
  lx : x < 18446744073709551616
  c : cl x = o
def FV (fn : FuncId) (args : Array Value) (w : World) (o : Option Nat) : Prop :=
  Calls Tryd.prog fn args w fun e w' => ∃ v, e = .returned (.float .f64 v) ∧ Fc v o ∧ Below w.heap.size w w'
theorem fc_op {x y : Nat} {o u : Option Nat} (op : BinOp) (h : Fc x o) (k : Fc y u) (w : World) : Fc (opV op x y w) (opC op o u) :=
  ⟨opV_lt _ _ _ _, by rw [opV_cl _ h.lx k.lx, h.c, k.c]⟩
theorem fc_own {x : Nat} (h : x < 18446744073709551616) : Fc x (cl x) := ⟨h, rfl⟩
theorem below_opW {B : Nat} {w W : World} {op : BinOp} {x y : Nat} (h : Below B w W) : Below B w (opW op x y W) := by
  rcases opW_below op x y W with e | e <;> rw [e]
  · exact h
  · exact h.drew
theorem cell_opW (op : BinOp) (x y : Nat) (W : World) (a : Addr) : (opW op x y W).cell? a = W.cell? a := by
  rcases opW_below op x y W with e | e <;> rw [e]
  rfl
theorem frozen_opW (op : BinOp) (x y : Nat) (W : World) (a : Addr) : (opW op x y W).frozen? a = W.frozen? a := by
  rcases opW_below op x y W with e | e <;> rw [e]
  rfl
theorem size_opW (op : BinOp) (x y : Nat) (W : World) : (opW op x y W).heap.size = W.heap.size := by
  rcases opW_below op x y W with e | e <;> rw [e]
  rfl
theorem add_run : ∀ (x y : Nat) (t : TypeId) (w : World), (binOp .add t (.float .f64 x) (.float .f64 y)).run Tryd.prog w = .ok (.float .f64 (opV .add x y w)) (opW .add x y w) := fun x y t w => run_float w .add t x y (by simp)
theorem sub_run : ∀ (x y : Nat) (t : TypeId) (w : World), (binOp .sub t (.float .f64 x) (.float .f64 y)).run Tryd.prog w = .ok (.float .f64 (opV .sub x y w)) (opW .sub x y w) := fun x y t w => run_float w .sub t x y (by simp)
theorem mul_run : ∀ (x y : Nat) (t : TypeId) (w : World), (binOp .mul t (.float .f64 x) (.float .f64 y)).run Tryd.prog w = .ok (.float .f64 (opV .mul x y w)) (opW .mul x y w) := fun x y t w => run_float w .mul t x y (by simp)
theorem quo_run : ∀ (x y : Nat) (t : TypeId) (w : World), (binOp .quo t (.float .f64 x) (.float .f64 y)).run Tryd.prog w = .ok (.float .f64 (opV .quo x y w)) (opW .quo x y w) := fun x y t w => run_float w .quo t x y (by simp)
/-- A whole number as a float. -/
def fi (z : Int) : Nat := floatOfInt .f64 z
theorem fi_lt (z : Int) : fi z < 18446744073709551616 := by
  unfold fi
  simpa [Lit.wf] using floatOfInt_wf .f64 z
theorem conv_run : ∀ (z : Int) (w : World), (convert 2 23 (.int .i64 z)).run Tryd.prog w = .ok (.float .f64 (fi z)) w := fun z w => run_convert_int_float w 2 23 .i64 .f64 z (by rw [Tryd.underlying2]; rfl) Tryd.underlying23
def sqO (o : Option Nat) : Option Nat := o.bind sqC
theorem sqC_cl {x : Nat} (hx : x < 18446744073709551616) : sqC x = sqO (cl x) := by
  unfold sqO cl
  by_cases n : Num x
  · rw [if_pos n]; rfl
  · rw [if_neg n]
    unfold sqC
    rw [sqrt_nan hx n]
    rfl
theorem iSqF {x : Nat} {o : Option Nat} (h : Fc x o) (w : World) : FV 73 #[.float .f64 x] w (sqO o) := by
  refine (iSqrt_any x w).mono ?_
  rintro e w' ⟨v, q, rfl, hv, hc, rfl⟩
  exact ⟨v, rfl, ⟨hv, by rw [hc, sqC_cl h.lx, h.c]⟩, below_drewN (Below.refl _ _) _⟩
theorem sSqF {x : Nat} {o : Option Nat} (h : Fc x o) (w : World) : FV 72 #[.float .f64 x] w (sqO o) := by
  refine (sSqrt_any h.lx w).mono ?_
  rintro e w' ⟨v, q, rfl, hv, hc, rfl⟩
  exact ⟨v, rfl, ⟨hv, by rw [hc, sqC_cl h.lx, h.c]⟩, below_drewN (Below.refl _ _) _⟩
def kC (z : Int) : Option Nat := opC .quo (cl (fi z)) (cl 4741671816366391296)
def lC (z : Int) : Option Nat := opC .quo (cl (fi z)) (cl 4652007308841189376)
def wC (z : Int) : Option Nat := opC .mul (lC z) (lC z)
/-- One term more. -/
def stepC (a b : Int) (o u : Option Nat) : Option Nat := opC .add u (opC .quo (opC .mul (kC a) o) (opC .sub o (kC b)))
def sixN (f : Nat → Int) (o : Option Nat) : Nat → Option Nat
  | 0 => cl 4607182418800017408
  | j + 1 => stepC (f (2 * j)) (f (2 * j + 1)) o (sixN f o j)
def threeC (f : Nat → Int) (o : Option Nat) : Option Nat := opC .add (opC .add (kC (f 0)) (opC .quo (kC (f 1)) o)) (opC .quo (kC (f 2)) (opC .mul o o))
theorem part_any (z : Int) (w : World) : FV 95 #[.int .i64 z] w (kC z) := by
  have hq := quo_run
  have hc := conv_run
  unfold FV
  go_enter Tryd.func95, Tryd.ntmps95
  go_wp2
  go_ret
  exact ⟨_, rfl, fc_op _ (fc_own (fi_lt z)) (fc_own (by omega)) _, below_opW (Below.refl _ _)⟩
end Go.Proofs.YtndfncjoknibaaaDoor
