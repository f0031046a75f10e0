/- The specification's comparison of floats: a contract. -/
import Derived.Test.YtcmgafgboepllaaCmp
namespace Go.Proofs.Ytcmgafgboepllaa
open Go.RowKit Fl
abbrev Says (f : FuncId) (x : Nat) (b : Bool) : Prop := ∀ w, Calls Try.prog f #[.float .f64 x] w fun e w' => e = .returned (.bool b) ∧ w = w'
theorem nan_t {x : Nat} (hx : x < 18446744073709551616) (n : ¬ Num x) : Says 83 x true := fun w => by
  have := l3NaN_any hx w
  rw [decide_eq_true n] at this
  exact this
theorem nan_f {x : Nat} (hx : x < 18446744073709551616) (n : Num x) : Says 83 x false := fun w => by
  have := l3NaN_any hx w
  rw [decide_eq_false (by simpa using n)] at this
  exact this
theorem neg_s {x : Nat} (hx : x < 18446744073709551616) (n : Num x) {b : Bool} (h : sg x = b) : Says 91 x b := fun w => by
  rw [← h]; exact l3Neg_any hx n w
set_option maxHeartbeats 400000 in
theorem sCmp_nn {x y : Nat} (H1 : Says 83 x true) (H2 : Says 83 y true) (w : World) : Calls Try.prog 63 #[.float .f64 x, .float .f64 y] w fun e w' => e = .returned (.int .i64 0) ∧ w = w' := by
  go_enter Try.func63, Try.ntmps63
  go_wp2_with fail
  refine (H1 _).mono ?_
  rintro e w1 ⟨rfl, rfl⟩
  go_wp2_with fail
  refine (H1 _).mono ?_
  rintro e w1 ⟨rfl, rfl⟩
  go_wp2_with fail
  refine (H2 _).mono ?_
  rintro e w1 ⟨rfl, rfl⟩
  go_wp2
  go_ret
  exact ⟨rfl, rfl⟩
set_option maxHeartbeats 400000 in
theorem sCmp_nm {x y : Nat} (H1 : Says 83 x true) (H2 : Says 83 y false) (w : World) : Calls Try.prog 63 #[.float .f64 x, .float .f64 y] w fun e w' => e = .returned (.int .i64 1) ∧ w = w' := by
  go_enter Try.func63, Try.ntmps63
  go_wp2_with fail
  refine (H1 _).mono ?_
  rintro e w1 ⟨rfl, rfl⟩
  go_wp2_with fail
  refine (H1 _).mono ?_
  rintro e w1 ⟨rfl, rfl⟩
  go_wp2_with fail
  refine (H2 _).mono ?_
  rintro e w1 ⟨rfl, rfl⟩
  go_wp2_with fail
  refine (H1 _).mono ?_
  rintro e w1 ⟨rfl, rfl⟩
  go_wp2
  go_ret
  exact ⟨rfl, rfl⟩
set_option maxHeartbeats 400000 in
theorem sCmp_mn {x y : Nat} (H1 : Says 83 x false) (H2 : Says 83 y true) (w : World) : Calls Try.prog 63 #[.float .f64 x, .float .f64 y] w fun e w' => e = .returned (.int .i64 (-1)) ∧ w = w' := by
  go_enter Try.func63, Try.ntmps63
  go_wp2_with fail
  refine (H1 _).mono ?_
  rintro e w1 ⟨rfl, rfl⟩
  go_wp2_with fail
  refine (H2 _).mono ?_
  rintro e w1 ⟨rfl, rfl⟩
  go_wp2_with fail
  refine (H1 _).mono ?_
  rintro e w1 ⟨rfl, rfl⟩
  go_wp2_with fail
  refine (H1 _).mono ?_
  rintro e w1 ⟨rfl, rfl⟩
  go_wp2
  go_ret
  exact ⟨rfl, rfl⟩
set_option maxHeartbeats 400000 in
theorem sCmp_lt {x y : Nat} (H1 : Says 83 x false) (H2 : Says 83 y false) (ho : FloatKind.f64.format.order x y = some .lt) (w : World) : Calls Try.prog 63 #[.float .f64 x, .float .f64 y] w fun e w' => e = .returned (.int .i64 (-1)) ∧ w = w' := by
  go_enter Try.func63, Try.ntmps63
  go_wp2_with fail
  refine (H1 _).mono ?_
  rintro e w1 ⟨rfl, rfl⟩
  go_wp2_with fail
  refine (H2 _).mono ?_
  rintro e w1 ⟨rfl, rfl⟩
  go_wp2
  go_ret
  exact ⟨rfl, rfl⟩
set_option maxHeartbeats 400000 in
theorem sCmp_gt {x y : Nat} (H1 : Says 83 x false) (H2 : Says 83 y false) (ho : FloatKind.f64.format.order x y = some .gt) (w : World) : Calls Try.prog 63 #[.float .f64 x, .float .f64 y] w fun e w' => e = .returned (.int .i64 1) ∧ w = w' := by
  go_enter Try.func63, Try.ntmps63
  go_wp2_with fail
  refine (H1 _).mono ?_
  rintro e w1 ⟨rfl, rfl⟩
  go_wp2_with fail
  refine (H2 _).mono ?_
  rintro e w1 ⟨rfl, rfl⟩
  go_wp2
  go_ret
  exact ⟨rfl, rfl⟩
set_option maxHeartbeats 400000 in
theorem sCmp_tt {x y : Nat} (H1 : Says 83 x false) (H2 : Says 83 y false) (ho : FloatKind.f64.format.order x y = some .eq) (G1 : Says 91 x true) (G2 : Says 91 y true) (w : World) : Calls Try.prog 63 #[.float .f64 x, .float .f64 y] w fun e w' => e = .returned (.int .i64 0) ∧ w = w' := by
  go_enter Try.func63, Try.ntmps63
  go_wp2_with fail
  refine (H1 _).mono ?_
  rintro e w1 ⟨rfl, rfl⟩
  go_wp2_with fail
  refine (H2 _).mono ?_
  rintro e w1 ⟨rfl, rfl⟩
  go_wp2_with fail
  refine (G1 _).mono ?_
  rintro e w1 ⟨rfl, rfl⟩
  go_wp2_with fail
  refine (G2 _).mono ?_
  rintro e w1 ⟨rfl, rfl⟩
  go_wp2
  go_ret
  exact ⟨rfl, rfl⟩
set_option maxHeartbeats 400000 in
theorem sCmp_ff {x y : Nat} (H1 : Says 83 x false) (H2 : Says 83 y false) (ho : FloatKind.f64.format.order x y = some .eq) (G1 : Says 91 x false) (G2 : Says 91 y false) (w : World) : Calls Try.prog 63 #[.float .f64 x, .float .f64 y] w fun e w' => e = .returned (.int .i64 0) ∧ w = w' := by
  go_enter Try.func63, Try.ntmps63
  go_wp2_with fail
  refine (H1 _).mono ?_
  rintro e w1 ⟨rfl, rfl⟩
  go_wp2_with fail
  refine (H2 _).mono ?_
  rintro e w1 ⟨rfl, rfl⟩
  go_wp2_with fail
  refine (G1 _).mono ?_
  rintro e w1 ⟨rfl, rfl⟩
  go_wp2_with fail
  refine (G2 _).mono ?_
  rintro e w1 ⟨rfl, rfl⟩
  go_wp2
  go_ret
  exact ⟨rfl, rfl⟩
set_option maxHeartbeats 400000 in
theorem sCmp_tf {x y : Nat} (H1 : Says 83 x false) (H2 : Says 83 y false) (ho : FloatKind.f64.format.order x y = some .eq) (G1 : Says 91 x true) (G2 : Says 91 y false) (w : World) : Calls Try.prog 63 #[.float .f64 x, .float .f64 y] w fun e w' => e = .returned (.int .i64 (-1)) ∧ w = w' := by
  go_enter Try.func63, Try.ntmps63
  go_wp2_with fail
  refine (H1 _).mono ?_
  rintro e w1 ⟨rfl, rfl⟩
  go_wp2_with fail
  refine (H2 _).mono ?_
  rintro e w1 ⟨rfl, rfl⟩
  go_wp2_with fail
  refine (G1 _).mono ?_
  rintro e w1 ⟨rfl, rfl⟩
  go_wp2_with fail
  refine (G2 _).mono ?_
  rintro e w1 ⟨rfl, rfl⟩
  go_wp2_with fail
  refine (G1 _).mono ?_
  rintro e w1 ⟨rfl, rfl⟩
  go_wp2
  go_ret
  exact ⟨rfl, rfl⟩
set_option maxHeartbeats 400000 in
theorem sCmp_ft {x y : Nat} (H1 : Says 83 x false) (H2 : Says 83 y false) (ho : FloatKind.f64.format.order x y = some .eq) (G1 : Says 91 x false) (G2 : Says 91 y true) (w : World) : Calls Try.prog 63 #[.float .f64 x, .float .f64 y] w fun e w' => e = .returned (.int .i64 1) ∧ w = w' := by
  go_enter Try.func63, Try.ntmps63
  go_wp2_with fail
  refine (H1 _).mono ?_
  rintro e w1 ⟨rfl, rfl⟩
  go_wp2_with fail
  refine (H2 _).mono ?_
  rintro e w1 ⟨rfl, rfl⟩
  go_wp2_with fail
  refine (G1 _).mono ?_
  rintro e w1 ⟨rfl, rfl⟩
  go_wp2_with fail
  refine (G2 _).mono ?_
  rintro e w1 ⟨rfl, rfl⟩
  go_wp2_with fail
  refine (G1 _).mono ?_
  rintro e w1 ⟨rfl, rfl⟩
  go_wp2
  go_ret
  exact ⟨rfl, rfl⟩
theorem sCmp_any {x y : Nat} (hx : x < 18446744073709551616) (hy : y < 18446744073709551616) (w : World) : Calls Try.prog 63 #[.float .f64 x, .float .f64 y] w fun e w' => e = .returned (.int .i64 (cmpF x y)) ∧ w = w' := by
  by_cases n1 : Num x <;> by_cases n2 : Num y
  · have H1 := nan_f hx n1
    have H2 := nan_f hy n2
    rcases Int.lt_trichotomy (sv (sg x) (rg x)) (sv (sg y) (rg y)) with h | h | h
    · rw [cmp_lt hx hy n1 n2 h]
      exact sCmp_lt H1 H2 (order_of_lt hx hy n1 n2 h) w
    · have ho := order_of_eq hx hy n1 n2 h
      rw [cmp_eq hx hy n1 n2 h]
      cases h1 : sg x <;> cases h2 : sg y
      · exact sCmp_ff H1 H2 ho (neg_s hx n1 h1) (neg_s hy n2 h2) w
      · exact sCmp_ft H1 H2 ho (neg_s hx n1 h1) (neg_s hy n2 h2) w
      · exact sCmp_tf H1 H2 ho (neg_s hx n1 h1) (neg_s hy n2 h2) w
      · exact sCmp_tt H1 H2 ho (neg_s hx n1 h1) (neg_s hy n2 h2) w
    · rw [cmp_gt hx hy n1 n2 h]
      exact sCmp_gt H1 H2 (order_of_gt hx hy n1 n2 h) w
  · have : cmpF x y = -1 := by
      unfold cmpF
      rw [rk_nan n2, if_pos (rk_num_lt hx n1)]
    rw [this]
    exact sCmp_mn (nan_f hx n1) (nan_t hy n2) w
  · have : cmpF x y = 1 := by
      have := rk_num_lt hy n2
      unfold cmpF
      rw [rk_nan n1, if_neg (by omega), if_pos this]
    rw [this]
    exact sCmp_nm (nan_t hx n1) (nan_f hy n2) w
  · have : cmpF x y = 0 := by
      unfold cmpF
      rw [rk_nan n1, rk_nan n2]; simp
    rw [this]
    exact sCmp_nn (nan_t hx n1) (nan_t hy n2) w
end Go.Proofs.Ytcmgafgboepllaa

