/- Rays and faces: their floats' classes, and what is reckoned of them, plainly. -/
import Derived.Test.YtbcidfmfkmeinaaVr
import Derived.Deep.RegionHeld3
namespace Go.Proofs.Ytbcidfmfkmeinaa
open Go.RowKit Fl
set_option linter.unusedVariables false
theorem fc_op (op : BinOp) {x y : Nat} {o p : Option Nat} (h : Fc x o) (k : Fc y p) (w : World) : Fc (opV op x y w) (opC op o p) :=
  ⟨opV_lt _ _ _ _, by rw [opV_cl _ h.lx k.lx, h.c, k.c]⟩
theorem fc_own {x : Nat} (h : x < 18446744073709551616) : Fc x (cl x) := ⟨h, rfl⟩
/-- A ray. -/
abbrev Rv (a : Nat → Nat) : Value := .agg #[.float .f64 (a 0), .float .f64 (a 1), .float .f64 (a 2), .float .f64 (a 3), .float .f64 (a 4), .float .f64 (a 5)]
structure Rc (a : Nat → Nat) (A : Nat → Option Nat) : Prop where
  h : ∀ j, j < 6 → Fc (a j) (A j)
def r6 {α : Type} (x y z l m n : α) : Nat → α := fun j => match j with | 0 => x | 1 => y | 2 => z | 3 => l | 4 => m | _ => n
theorem rc_mk {x y z l m n : Nat} {X Y Z L M N : Option Nat} (h0 : Fc x X) (h1 : Fc y Y) (h2 : Fc z Z) (h3 : Fc l L) (h4 : Fc m M) (h5 : Fc n N) : Rc (r6 x y z l m n) (r6 X Y Z L M N) :=
  ⟨fun j hj => match j, hj with | 0, _ => h0 | 1, _ => h1 | 2, _ => h2 | 3, _ => h3 | 4, _ => h4 | 5, _ => h5⟩
/-- A face. -/
abbrev Gv (a : Nat → Nat) : Value := .agg #[.float .f64 (a 0), .float .f64 (a 1), .float .f64 (a 2), .float .f64 (a 3), .float .f64 (a 4)]
structure Gc (a : Nat → Nat) (A : Nat → Option Nat) : Prop where
  h : ∀ j, j < 5 → Fc (a j) (A j)
def alongC (A B : Nat → Option Nat) : Option Nat := opC .add (opC .add (opC .mul (A 3) (B 3)) (opC .mul (A 4) (B 4))) (opC .mul (A 5) (B 5))
def bounceC (A B : Nat → Option Nat) : Nat → Option Nat :=
  r6 (A 0) (A 1) (A 2) (opC .sub (A 3) (opC .mul (opC .add (alongC A B) (alongC A B)) (B 3))) (opC .sub (A 4) (opC .mul (opC .add (alongC A B) (alongC A B)) (B 4))) (opC .sub (A 5) (opC .mul (opC .add (alongC A B) (alongC A B)) (B 5)))
/-- What a function answers: a ray of these classes. -/
def RV (fn : FuncId) (args : Array Value) (w : World) (A : Nat → Option Nat) : Prop :=
  Calls Try.prog fn args w fun e w' => ∃ a, e = .returned (Rv a) ∧ Rc a A ∧ Below w.heap.size w w'
/-- The order of two floats, all NaNs being one. -/
def ordO (o p : Option Nat) : Option Ordering := o.bind fun x => p.bind fun y => FloatKind.f64.format.order x y
theorem ord_fc {x y : Nat} {o p : Option Nat} (h : Fc x o) (k : Fc y p) : FloatKind.f64.format.order x y = ordO o p := by
  rw [← h.c, ← k.c]
  unfold ordO
  by_cases nx : Num x
  · by_cases ny : Num y
    · simp [cl, nx, ny]
    · simp only [cl, nx, ny, if_true, if_false, Option.bind_some, Option.bind_none]
      exact order_nan_r x k.lx ny
  · simp only [cl, nx, if_false, Option.bind_none]
    exact order_nan_l y h.lx nx
def geO (o p : Option Nat) : Bool := ordO o p == some .gt || ordO o p == some .eq
def gtO (o p : Option Nat) : Bool := ordO o p == some .gt
abbrev zO : Option Nat := some 0
abbrev oneO : Option Nat := some 4607182418800017408
theorem fc_zero : Fc 0 zO := ⟨by decide, by decide⟩
theorem fc_one : Fc 4607182418800017408 oneO := ⟨by decide, by decide⟩
theorem ge_fc {x y : Nat} {o p : Option Nat} (h : Fc x o) (k : Fc y p) : (FloatKind.f64.format.order x y == some .gt || FloatKind.f64.format.order x y == some .eq) = geO o p := by rw [ord_fc h k]; rfl
theorem gt_fc {x y : Nat} {o p : Option Nat} (h : Fc x o) (k : Fc y p) : (FloatKind.f64.format.order x y == some .gt) = gtO o p := by rw [ord_fc h k]; rfl
def negO (o : Option Nat) : Option Nat := o.map (Op.negFloat .f64)
theorem fc_neg {x : Nat} {o : Option Nat} (h : Fc x o) : Fc (Op.negFloat .f64 x) (negO o) := by
  refine ⟨neg_lt h.lx, ?_⟩
  rw [← h.c]
  by_cases n : Num x
  · simp [cl, n, (neg_num h.lx).2 n, negO]
  · simp [cl, n, mt (neg_num h.lx).1 n, negO]
def sqO (o : Option Nat) : Option Nat := o.bind sqC
theorem sq_cl {x : Nat} (hx : x < 18446744073709551616) : sqC x = sqO (cl x) := by
  unfold sqO
  by_cases n : Num x
  · simp [cl, n]
  · simp only [cl, n, if_false, Option.bind_none]
    unfold sqC
    rw [sqrt_nan hx n]; rfl
theorem sSqrt_fc {x : Nat} {o : Option Nat} (h : Fc x o) (w : World) : FV 28 #[.float .f64 x] w (sqO o) := by
  refine (sSqrt_any h.lx w).mono ?_
  rintro e w' ⟨v, q, rfl, h1, h2, rfl⟩
  exact ⟨v, rfl, ⟨h1, by rw [h2, sq_cl h.lx, h.c]⟩, below_drewN (Below.refl _ _) q⟩
theorem iSqrt_fc {x : Nat} {o : Option Nat} (h : Fc x o) (w : World) : FV 48 #[.float .f64 x] w (sqO o) := by
  refine (iSqrt_any x w).mono ?_
  rintro e w' ⟨v, q, rfl, h1, h2, rfl⟩
  exact ⟨v, rfl, ⟨h1, by rw [h2, sq_cl h.lx, h.c]⟩, below_drewN (Below.refl _ _) q⟩
/-- A ray that is bent: its classes, if it goes on. -/
def bendS (A B : Nat → Option Nat) (p q : Option Nat) : Option Nat :=
  opC .sub oneO (opC .mul (opC .mul (opC .quo p q) (opC .quo p q)) (opC .sub oneO (opC .mul (alongC A B) (alongC A B))))
def bendG (A B : Nat → Option Nat) (p q : Option Nat) : Option Nat := opC .sub (sqO (bendS A B p q)) (opC .mul (opC .quo p q) (alongC A B))
def bendR (A B : Nat → Option Nat) (p q : Option Nat) : Nat → Option Nat :=
  r6 (A 0) (A 1) (A 2) (opC .add (opC .mul (opC .quo p q) (A 3)) (opC .mul (bendG A B p q) (B 3))) (opC .add (opC .mul (opC .quo p q) (A 4)) (opC .mul (bendG A B p q) (B 4))) (opC .add (opC .mul (opC .quo p q) (A 5)) (opC .mul (bendG A B p q) (B 5)))
def bendC (A B : Nat → Option Nat) (p q : Option Nat) : Option (Nat → Option Nat) := if geO (bendS A B p q) zO then some (bendR A B p q) else none
/-- A code and a ray. -/
abbrev Qv (c : Int) (a : Nat → Nat) : Value := .agg #[.int .i64 c, .float .f64 (a 0), .float .f64 (a 1), .float .f64 (a 2), .float .f64 (a 3), .float .f64 (a 4), .float .f64 (a 5)]
def codeOf {α : Type} (o : Option α) : Int := if o.isSome then 0 else 4
def rayOf (o : Option (Nat → Option Nat)) : Nat → Option Nat := o.getD (fun _ => zO)
def QV (fn : FuncId) (args : Array Value) (w : World) (o : Option (Nat → Option Nat)) : Prop :=
  Calls Try.prog fn args w fun e w' => ∃ a, e = .returned (Qv (codeOf o) a) ∧ Rc a (rayOf o) ∧ Below w.heap.size w w'
end Go.Proofs.Ytbcidfmfkmeinaa
