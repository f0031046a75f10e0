/- Finite floats at the laws' bounds; opposite floats compared; a half and a quarter of a turn: plain laws and two contracts. -/
import Derived.Test.YtnmkbhallidgaaaIt
namespace Go.Proofs.Ytnmkbhallidgaaa
open Go.RowKit Fl
set_option linter.unusedVariables false
set_option linter.unusedSimpArgs false
theorem vv_le {r q : Nat} (h : r ≤ q) : vv r ≤ vv q := by
  rcases Nat.lt_or_eq_of_le h with h | rfl
  · exact Nat.le_of_lt (vv_lt.2 h)
  · exact Nat.le_refl _
theorem cmp_ge {a b : Int} (h : b ≤ a) : some (compare a b) = some .gt ∨ some (compare a b) = some .eq := by
  by_cases e : b = a
  · subst e
    right
    simp
  · left
    rw [Int.compare_eq_gt.2 (by omega)]
theorem cmp_le {a b : Int} (h : a ≤ b) : some (compare a b) = some .lt ∨ some (compare a b) = some .eq := by
  by_cases e : b = a
  · subst e
    right
    simp
  · left
    rw [Int.compare_eq_lt.2 (by omega)]
theorem sv_lo (s : Bool) {r q : Nat} (h : r ≤ q) : sv true q ≤ sv s r := by
  have := vv_le h
  unfold sv
  cases s <;> simp <;> omega
theorem sv_hi (s : Bool) {r q : Nat} (h : r ≤ q) : sv s r ≤ sv false q := by
  have := vv_le h
  unfold sv
  cases s <;> simp <;> omega
theorem fin_lo {x : Nat} (hx : x < 18446744073709551616) (h : rg x < 9218868437227405312) : FloatKind.f64.format.order x 18442240474082181119 = some .gt ∨ FloatKind.f64.format.order x 18442240474082181119 = some .eq := by
  have e : FloatKind.f64.format.order x 18442240474082181119 = some (compare (sv (sg x) (rg x)) (sv (sg 18442240474082181119) (rg 18442240474082181119))) := order_num hx (by omega) (Nat.le_of_lt h) (by decide)
  rw [e]
  refine cmp_ge ?_
  rw [show sg 18442240474082181119 = true by decide, show rg 18442240474082181119 = 9218868437227405311 by decide]
  exact sv_lo _ (by omega)
theorem fin_hi {x : Nat} (hx : x < 18446744073709551616) (h : rg x < 9218868437227405312) : FloatKind.f64.format.order x 9218868437227405311 = some .lt ∨ FloatKind.f64.format.order x 9218868437227405311 = some .eq := by
  have e : FloatKind.f64.format.order x 9218868437227405311 = some (compare (sv (sg x) (rg x)) (sv (sg 9218868437227405311) (rg 9218868437227405311))) := order_num hx (by omega) (Nat.le_of_lt h) (by decide)
  rw [e]
  refine cmp_le ?_
  rw [show sg 9218868437227405311 = false by decide, show rg 9218868437227405311 = 9218868437227405311 by decide]
  exact sv_hi _ (by omega)
theorem finite_any {x : Nat} (hx : x < 18446744073709551616) (h : rg x < 9218868437227405312) (w : World) : Calls Try.prog 60 #[.float .f64 x] w fun e w' => e = .returned (.bool true) ∧ w = w' := by
  have h1 := fin_lo hx h
  have h2 := fin_hi hx h
  clear hx h
  rcases h1 with h1 | h1 <;> rcases h2 with h2 | h2
  all_goals
    go_enter Try.func60, Try.ntmps60
    go_wp2
    go_ret
    exact ⟨rfl, rfl⟩
theorem finiteZ_any {x y : Nat} (hx : x < 18446744073709551616) (h : rg x < 9218868437227405312) (hy : y < 18446744073709551616) (k : rg y < 9218868437227405312) (w : World) : Calls Try.prog 19 #[Zv x y] w fun e w' => e = .returned (.bool true) ∧ Below w.heap.size w w' := by
  have H1 : Hid (∀ w, Calls Try.prog 60 #[.float .f64 x] w fun e w' => e = .returned (.bool true) ∧ w = w') := finite_any hx h
  have H2 : Hid (∀ w, Calls Try.prog 60 #[.float .f64 y] w fun e w' => e = .returned (.bool true) ∧ w = w') := finite_any hy k
  clear hx h hy k
  go_enter Try.func19, Try.ntmps19
  go_wp2_with fail
  refine (H1.out _).mono ?_
  rintro e w1 ⟨rfl, rfl⟩
  go_wp2_with fail
  refine (H2.out _).mono ?_
  rintro e w1 ⟨rfl, rfl⟩
  go_wp2
  go_ret
  refine ⟨rfl, ?_⟩
  go_grown
theorem oeq_self {x : Nat} (hx : x < 18446744073709551616) (n : Num x) : oeq x x = true := by
  have e : FloatKind.f64.format.order x x = some .eq := order_self hx n
  unfold oeq
  rw [e]
  rfl
theorem oeq_sv {x y : Nat} (hx : x < 18446744073709551616) (hy : y < 18446744073709551616) (n : Num x) (m : Num y) (h : sv (sg x) (rg x) = sv (sg y) (rg y)) : oeq x y = true := by
  have e : FloatKind.f64.format.order x y = some (compare (sv (sg x) (rg x)) (sv (sg y) (rg y))) := order_num hx hy n m
  unfold oeq
  rw [e, h]
  simp
theorem quarter : turnC 262144 = (some 0, some 4607182418800017408) := by
  have h : foldT 262144 (2 + 18) = foldT 262144 2 := fold_rest (fun j h1 h2 => dig_none (i := 1) (by decide) (by omega) (by omega))
  show foldT 262144 20 = _
  rw [h]
  decide +kernel
theorem half : turnC 524288 = (some 13830554455654793216, some 0) := by
  have h : foldT 524288 (1 + 19) = foldT 524288 1 := fold_rest (fun j h1 h2 => dig_none (i := 0) (by decide) (by omega) (by omega))
  show foldT 524288 20 = _
  rw [h]
  decide +kernel
theorem cl_some {x a : Nat} (h : cl x = some a) : x = a ∧ Num x := by
  unfold cl at h
  split at h
  · next n => exact ⟨Option.some.inj h, n⟩
  · cases h
theorem zc_some {x y a b : Nat} {o : Option Nat × Option Nat} (h : Zc x y o) (e : o = (some a, some b)) : x = a ∧ y = b := by
  have k := h.c.trans e
  exact ⟨(cl_some (congrArg Prod.fst k)).1, (cl_some (congrArg Prod.snd k)).1⟩
end Go.Proofs.Ytnmkbhallidgaaa
