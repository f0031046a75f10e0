/- A float's operation that has no answer gives some NaN: which one the run's choices say. -/
import Derived.Test.YtloebnlmeplgbaaFlOrder
import Derived.Laws.NewFold
import Derived.Deep.Draws
namespace Go.Proofs.Ytloebnlmeplgbaa.Fl
open Ieee
/-- The NaN that is chosen at this place of the run. -/
def nanAt (w : World) (x y : Nat) : Nat := (Question.nanBits .f64 x y).cut (w.tape w.drawn (Question.nanBits .f64 x y))
theorem nanAt_lt (w : World) (x y : Nat) : nanAt w x y < 18446744073709551616 := by
  unfold nanAt
  simp only [Question.cut]
  omega
theorem nanAt_nan (w : World) (x y : Nat) : ¬ Num (nanAt w x y) := by
  unfold nanAt Num
  simp only [Question.cut]
  generalize w.tape w.drawn (Question.nanBits .f64 x y) = t
  have h1 : t % 2 = 0 ∨ t % 2 = 1 := by omega
  have h2 : t / 2 % (2 ^ 52 - 1) < 4503599627370495 := Nat.mod_lt _ (by decide)
  generalize t / 2 % (2 ^ 52 - 1) = c at h2 ⊢
  rcases h1 with h1 | h1 <;> rw [h1] <;> omega
theorem run_float_none {P : Program} (w : World) (op : BinOp) (t : TypeId) (x y : Nat) (hop : op = .add ∨ op = .sub ∨ op = .mul ∨ op = .quo) (h : floatBits op .f64 x y = none) :
    (binOp op t (.float .f64 x) (.float .f64 y)).run P w = .ok (.float .f64 (nanAt w x y)) w.drew := by
  unfold floatBits at h
  rcases hop with rfl | rfl | rfl | rfl <;> simp only at h <;> simp [binOp, Op.floatArith, h, nanAt, Question.forced]
/-- What a float's operation gives. -/
def opV (op : BinOp) (x y : Nat) (w : World) : Nat := (floatBits op .f64 x y).getD (nanAt w x y)
def opW (op : BinOp) (x y : Nat) (w : World) : World := if (floatBits op .f64 x y).isSome then w else w.drew
theorem run_float {P : Program} (w : World) (op : BinOp) (t : TypeId) (x y : Nat) (hop : op = .add ∨ op = .sub ∨ op = .mul ∨ op = .quo) :
    (binOp op t (.float .f64 x) (.float .f64 y)).run P w = .ok (.float .f64 (opV op x y w)) (opW op x y w) := by
  unfold opV opW
  cases h : floatBits op .f64 x y with
  | none => simpa using run_float_none w op t x y hop h
  | some r => simpa using run_float_arith w op t .f64 x y r h
/-- All NaNs are one. -/
def cl (x : Nat) : Option Nat := if Num x then some x else none
def opC (op : BinOp) (a b : Option Nat) : Option Nat := a.bind fun x => b.bind fun y => (floatBits op .f64 x y).bind cl
theorem opV_lt (op : BinOp) (x y : Nat) (w : World) : opV op x y w < 18446744073709551616 := by
  unfold opV
  cases h : floatBits op .f64 x y with
  | none => exact nanAt_lt w x y
  | some r =>
    have := floatBits_wf h
    simpa [Lit.wf] using this
theorem read_not_num {x : Nat} (hx : x < 18446744073709551616) (h : ¬ Num x) : double.read x = .nan (sg x) (rg x - 9218868437227405312) := by
  conv => lhs; rw [split_word hx]
  exact read_nan _ (by unfold Num at h; simp only [rg]; omega) (by simp only [rg]; omega)
theorem floatBits_nan_l {op : BinOp} {x : Nat} (y : Nat) (hx : x < 18446744073709551616) (h : ¬ Num x) : floatBits op .f64 x y = none := by
  have h2 := read_not_num hx h
  unfold floatBits
  cases op <;> simp only [FloatKind.format, Format.add, Format.sub, Format.mul, Format.div, h2] <;> rfl
theorem floatBits_nan_r {op : BinOp} (x : Nat) {y : Nat} (hy : y < 18446744073709551616) (h : ¬ Num y) : floatBits op .f64 x y = none := by
  have h2 := read_not_num hy h
  unfold floatBits
  cases op <;> simp only [FloatKind.format, Format.add, Format.sub, Format.mul, Format.div, h2, Datum.opposite] <;> cases double.read x <;> rfl
theorem opV_cl {op : BinOp} {x y : Nat} (w : World) (hx : x < 18446744073709551616) (hy : y < 18446744073709551616) : cl (opV op x y w) = opC op (cl x) (cl y) := by
  unfold opC
  by_cases nx : Num x
  · by_cases ny : Num y
    · simp only [cl, nx, ny, if_true, Option.bind_some]
      unfold opV
      cases h : floatBits op .f64 x y with
      | none => simp [nanAt_nan w x y]
      | some r => simp [cl]
    · simp only [cl, nx, ny, if_true, if_false, Option.bind_some, Option.bind_none]
      unfold opV
      rw [floatBits_nan_r x hy ny]
      simp [nanAt_nan w x y]
  · simp only [cl, nx, if_false, Option.bind_none]
    unfold opV
    rw [floatBits_nan_l y hx nx]
    simp [nanAt_nan w x y]
theorem opW_below (op : BinOp) (x y : Nat) (w : World) : opW op x y w = w ∨ opW op x y w = w.drew := by
  unfold opW; split <;> simp
theorem opW_drewN (op : BinOp) (x y : Nat) (w : World) : ∃ q, opW op x y w = w.drewN q := by
  rcases opW_below op x y w with h | h
  · exact ⟨0, by rw [h]; rfl⟩
  · exact ⟨1, by rw [h]; rfl⟩
end Go.Proofs.Ytloebnlmeplgbaa.Fl
