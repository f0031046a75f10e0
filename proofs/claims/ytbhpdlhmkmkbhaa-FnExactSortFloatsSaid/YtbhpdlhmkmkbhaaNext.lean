/- The next float: contracts of the specification's and the program's. -/
import Derived.Test.YtbhpdlhmkmkbhaaSame
namespace Go.Proofs.Ytbhpdlhmkmkbhaa
open Go.RowKit Fl
set_option linter.unusedSimpArgs false
theorem cl_fb (x : Nat) : cl (fb x) = cl x := by
  unfold fb
  by_cases h : Num x
  · rw [if_pos h]
  · rw [if_neg h]
    simp only [cl, h, if_false]
    decide
theorem fb_num {x : Nat} (h : Num x) : fb x = x := by unfold fb; rw [if_pos h]
theorem fb_nan {x : Nat} (h : ¬ Num x) : fb x = 9221120237041090560 := by unfold fb; rw [if_neg h]
/-- The next one, of what is no NaN and not the infinite one above 0. -/
def nx (x : Nat) : Nat := if rg x = 0 then 1 else if sg x then x - 1 else x + 1
def nextC (x : Nat) : Option Nat := if Num x then some (if x = 9218868437227405312 then x else nx x) else none
theorem nx_num {x : Nat} (hx : x < 18446744073709551616) (n : Num x) (h : x ≠ 9218868437227405312) : Num (nx x) ∧ nx x < 18446744073709551616 := by
  unfold nx Num at *
  simp only [rg, sg, decide_eq_true_eq] at *
  split
  · omega
  · split <;> omega
theorem large_gt {x : Nat} (hx : x < 18446744073709551616) (n : Num x) (h : x ≠ 9218868437227405312) : (FloatKind.f64.format.order x 9218868437227405311 == some .gt) = false := by
  rw [beq_order]; exact decide_eq_false (fun k => h ((order_large hx n).1 k))
theorem sNext_nan {x : Nat} (hx : x < 18446744073709551616) (n : ¬ Num x) (w : World) : Calls Try.prog 34 #[.float .f64 x] w fun e w' => e = .returned (.float .f64 x) ∧ w = w' := by
  go_enter Try.func34, Try.ntmps34
  go_wp2_with fail
  refine (l3NaN_any hx _).mono ?_
  rintro e w1 ⟨rfl, rfl⟩
  rw [decide_eq_true n]
  go_wp2
  go_ret
  exact ⟨rfl, rfl⟩
theorem sNext_inf (w : World) : Calls Try.prog 34 #[.float .f64 9218868437227405312] w fun e w' => e = .returned (.float .f64 9218868437227405312) ∧ w = w' := by
  have h1 : FloatKind.f64.format.order 9218868437227405312 9218868437227405311 = some .gt := by decide
  have h2 := l3NaN_any (b := 9218868437227405312) (by omega)
  rw [show decide (¬ Num 9218868437227405312) = false by decide] at h2
  go_enter Try.func34, Try.ntmps34
  go_wp2_with fail
  refine (h2 _).mono ?_
  rintro e w1 ⟨rfl, rfl⟩
  clear h2
  go_wp2
  go_ret
  exact ⟨rfl, rfl⟩
theorem sNext_zero {x : Nat} (hx : x < 18446744073709551616) (n : Num x) (h : x ≠ 9218868437227405312) (h0 : rg x = 0) (w : World) : Calls Try.prog 34 #[.float .f64 x] w fun e w' => ∃ v q, e = .returned (.float .f64 v) ∧ v < 18446744073709551616 ∧ cl v = cl 1 ∧ w' = w.drewN q := by
  have h1 := large_gt hx n h
  have h2 := order_zero hx n
  rw [if_pos h0] at h2
  have h3 := sOf_any (b := 1) (by omega)
  have H3 : Hid (∀ w, Calls Try.prog 30 #[.int .u64 1] w fun e w' => ∃ x q, e = .returned (.float .f64 x) ∧ x < 18446744073709551616 ∧ cl x = cl 1 ∧ w' = w.drewN q) := h3
  clear h3
  go_enter Try.func34, Try.ntmps34
  go_wp2_with fail
  refine (l3NaN_any hx _).mono ?_
  rintro e w1 ⟨rfl, rfl⟩
  rw [decide_eq_false (by simpa using n)]
  go_wp2_with fail
  refine (H3.out _).mono ?_
  rintro e w1 ⟨v, q, rfl, hv, hc, rfl⟩
  have HC : Hid (cl v = cl 1) := hc
  clear hc h1 h2
  go_wp2
  go_ret
  exact ⟨v, q, rfl, hv, HC.out, rfl⟩
set_option maxHeartbeats 800000 in
theorem sNext_some {x : Nat} {X Y : Int} (hx : x < 18446744073709551616) (n : Num x) (h : x ≠ 9218868437227405312) (h0 : ¬ rg x = 0) (hX : X = x) (h00 : 0 ≤ X) (hX2 : X ≤ 18446744073709551614) (hX1 : 1 ≤ X) {o : Option Nat}
    (hY : Y = if sg x then X - 1 else X + 1) (HO : Hid (∀ w, Calls Try.prog 30 #[.int .u64 Y] w fun e w' => ∃ x q, e = .returned (.float .f64 x) ∧ x < 18446744073709551616 ∧ cl x = o ∧ w' = w.drewN q)) (w : World) :
    Calls Try.prog 34 #[.float .f64 x] w fun e w' => ∃ v q, e = .returned (.float .f64 v) ∧ v < 18446744073709551616 ∧ cl v = o ∧ w' = w.drewN q := by
  have h1 := large_gt hx n h
  have h2 := order_zero hx n
  rw [if_neg h0] at h2
  have hB : ∀ w, Calls Try.prog 29 #[.float .f64 x] w fun e w' => e = .returned (.int .u64 X) ∧ w = w' := fun w => by
    have := sBits_any hx w
    rw [fb_num n] at this
    rw [hX]
    exact this
  have HB : Hid (∀ w, Calls Try.prog 29 #[.float .f64 x] w fun e w' => e = .returned (.int .u64 X) ∧ w = w') := hB
  clear hB hX
  by_cases hs : sg x = true
  · rw [if_pos hs] at hY h2
    subst hY
    go_enter Try.func34, Try.ntmps34
    go_wp2_with fail
    refine (l3NaN_any hx _).mono ?_
    rintro e w1 ⟨rfl, rfl⟩
    rw [decide_eq_false (by simpa using n)]
    clear n h h0 hs
    go_wp2_with fail
    refine (HB.out _).mono ?_
    rintro e w1 ⟨rfl, rfl⟩
    go_wp2_with fail
    refine (HO.out _).mono ?_
    rintro e w1 ⟨v, q, rfl, hv, hc, rfl⟩
    have HC : Hid (cl v = o) := hc
    clear hc h1 h2
    go_wp2
    go_ret
    exact ⟨v, q, rfl, hv, HC.out, rfl⟩
  · rw [if_neg hs] at hY h2
    subst hY
    go_enter Try.func34, Try.ntmps34
    go_wp2_with fail
    refine (l3NaN_any hx _).mono ?_
    rintro e w1 ⟨rfl, rfl⟩
    rw [decide_eq_false (by simpa using n)]
    clear n h h0 hs
    go_wp2_with fail
    refine (HB.out _).mono ?_
    rintro e w1 ⟨rfl, rfl⟩
    go_wp2_with fail
    refine (HO.out _).mono ?_
    rintro e w1 ⟨v, q, rfl, hv, hc, rfl⟩
    have HC : Hid (cl v = o) := hc
    clear hc h1 h2
    go_wp2
    go_ret
    exact ⟨v, q, rfl, hv, HC.out, rfl⟩
theorem cl_num {x : Nat} (h : Num x) : cl x = some x := by simp [cl, h]
theorem cl_nan {x : Nat} (h : ¬ Num x) : cl x = none := by simp [cl, h]
theorem sNext_any {x : Nat} (hx : x < 18446744073709551616) (w : World) : Calls Try.prog 34 #[.float .f64 x] w fun e w' => ∃ v q, e = .returned (.float .f64 v) ∧ v < 18446744073709551616 ∧ cl v = nextC x ∧ w' = w.drewN q := by
  by_cases n : Num x
  · by_cases hi : x = 9218868437227405312
    · subst hi
      refine (sNext_inf w).mono ?_
      rintro e w' ⟨rfl, rfl⟩
      exact ⟨_, 0, rfl, by omega, by rw [cl_num n]; simp [nextC, n], rfl⟩
    · obtain ⟨m1, m2⟩ := nx_num hx n hi
      have hn : nextC x = cl (nx x) := by rw [cl_num m1]; simp [nextC, n, hi]
      rw [hn]
      by_cases h0 : rg x = 0
      · have : nx x = 1 := by unfold nx; rw [if_pos h0]
        rw [this]
        exact sNext_zero hx n hi h0 w
      · have h00 : 0 < x := by simp only [rg] at h0; omega
        have h11 : x < 18446744073709551615 := by unfold Num at n; omega
        refine sNext_some (X := (x : Int)) (Y := (nx x : Nat)) hx n hi h0 rfl (by omega) (by omega) (by omega) ?_ (fun w => sOf_any m2 w) w
        unfold nx
        rw [if_neg h0]
        by_cases hs : sg x = true
        · rw [if_pos hs, if_pos hs]; omega
        · rw [if_neg hs, if_neg hs]; omega
  · refine (sNext_nan hx n w).mono ?_
    rintro e w' ⟨rfl, rfl⟩
    exact ⟨_, 0, rfl, hx, by rw [cl_nan n]; simp [nextC, n], rfl⟩
set_option maxHeartbeats 800000 in
theorem iNext_some {x : Nat} {X Y : Int} (hx : x < 18446744073709551616) (n : Num x) (h0 : ¬ rg x = 0) (hX : X = x) (h00 : 0 ≤ X) (hX2 : X ≤ 18446744073709551614) (hX1 : 1 ≤ X) (e1 : X ≠ 9221120237041090560) (e2 : X ≠ 9218868437227405312) {v : Nat}
    (hY : Y = if sg x then X - 1 else X + 1) (HO : Hid (∀ w, Calls Try.prog 18 #[.int .u64 Y] w fun e w' => e = .returned (.float .f64 v) ∧ w = w')) (w : World) :
    Calls Try.prog 22 #[.float .f64 x] w fun e w' => e = .returned (.float .f64 v) ∧ w = w' := by
  have h2 := order_zero hx n
  rw [if_neg h0] at h2
  have hB : ∀ w, Calls Try.prog 19 #[.float .f64 x] w fun e w' => e = .returned (.int .u64 X) ∧ w = w' := fun w => by
    have := iBits_any hx w
    rw [fb_num n] at this
    rw [hX]
    exact this
  have HB : Hid (∀ w, Calls Try.prog 19 #[.float .f64 x] w fun e w' => e = .returned (.int .u64 X) ∧ w = w') := hB
  have f1 : (X == 9221120237041090560) = false := by simpa using e1
  have f2 : (X == 9218868437227405312) = false := by simpa using e2
  clear hB hX n h0 e1 e2
  by_cases hs : sg x = true
  · rw [if_pos hs] at hY h2
    subst hY
    clear hs
    go_enter Try.func22, Try.ntmps22
    go_wp2_with fail
    refine (HB.out _).mono ?_
    rintro e w1 ⟨rfl, rfl⟩
    go_wp2_with fail
    refine (HO.out _).mono ?_
    rintro e w1 ⟨rfl, rfl⟩
    go_wp2
    go_ret
    exact ⟨rfl, rfl⟩
  · rw [if_neg hs] at hY h2
    subst hY
    clear hs
    go_enter Try.func22, Try.ntmps22
    go_wp2_with fail
    refine (HB.out _).mono ?_
    rintro e w1 ⟨rfl, rfl⟩
    go_wp2_with fail
    refine (HO.out _).mono ?_
    rintro e w1 ⟨rfl, rfl⟩
    go_wp2
    go_ret
    exact ⟨rfl, rfl⟩
theorem iNext_zero {x : Nat} {X : Int} (hx : x < 18446744073709551616) (n : Num x) (h0 : rg x = 0) (hX : X = x) (e1 : X ≠ 9221120237041090560) (e2 : X ≠ 9218868437227405312) (w : World) :
    Calls Try.prog 22 #[.float .f64 x] w fun e w' => e = .returned (.float .f64 1) ∧ w = w' := by
  have h2 := order_zero hx n
  rw [if_pos h0] at h2
  have HB : Hid (∀ w, Calls Try.prog 19 #[.float .f64 x] w fun e w' => e = .returned (.int .u64 X) ∧ w = w') := fun w => by
    have := iBits_any hx w
    rw [fb_num n] at this
    rw [hX]
    exact this
  have HO : Hid (∀ w, Calls Try.prog 18 #[.int .u64 1] w fun e w' => e = .returned (.float .f64 1) ∧ w = w') := fun w => iOf_any (b := 1) (by omega) w
  have f1 : (X == 9221120237041090560) = false := by simpa using e1
  have f2 : (X == 9218868437227405312) = false := by simpa using e2
  clear hX n h0 e1 e2
  go_enter Try.func22, Try.ntmps22
  go_wp2_with fail
  refine (HB.out _).mono ?_
  rintro e w1 ⟨rfl, rfl⟩
  go_wp2_with fail
  refine (HO.out _).mono ?_
  rintro e w1 ⟨rfl, rfl⟩
  go_wp2
  go_ret
  exact ⟨rfl, rfl⟩
theorem iNext_self {x : Nat} {X : Int} (hx : x < 18446744073709551616) (hX : X = fb x) (e : X = 9221120237041090560 ∨ X = 9218868437227405312) (w : World) :
    Calls Try.prog 22 #[.float .f64 x] w fun e w' => e = .returned (.float .f64 x) ∧ w = w' := by
  have HB : Hid (∀ w, Calls Try.prog 19 #[.float .f64 x] w fun e w' => e = .returned (.int .u64 X) ∧ w = w') := fun w => by
    rw [hX]
    exact iBits_any hx w
  clear hX
  rcases e with rfl | rfl
  · go_enter Try.func22, Try.ntmps22
    go_wp2_with fail
    refine (HB.out _).mono ?_
    rintro e w1 ⟨rfl, rfl⟩
    go_wp2
    go_ret
    exact ⟨rfl, rfl⟩
  · go_enter Try.func22, Try.ntmps22
    go_wp2_with fail
    refine (HB.out _).mono ?_
    rintro e w1 ⟨rfl, rfl⟩
    go_wp2
    go_ret
    exact ⟨rfl, rfl⟩
theorem iNext_any {x : Nat} (hx : x < 18446744073709551616) (w : World) : Calls Try.prog 22 #[.float .f64 x] w fun e w' => ∃ v, e = .returned (.float .f64 v) ∧ v < 18446744073709551616 ∧ cl v = nextC x ∧ w = w' := by
  by_cases n : Num x
  · by_cases hi : x = 9218868437227405312
    · refine (iNext_self (X := 9218868437227405312) hx (by rw [fb_num n, hi]; rfl) (Or.inr rfl) w).mono ?_
      rintro e w' ⟨rfl, rfl⟩
      exact ⟨_, rfl, hx, by rw [cl_num n]; simp [nextC, n, hi], rfl⟩
    · obtain ⟨m1, m2⟩ := nx_num hx n hi
      have hn : nextC x = cl (nx x) := by rw [cl_num m1]; simp [nextC, n, hi]
      rw [hn]
      have e1 : (x : Int) ≠ 9221120237041090560 := by unfold Num at n; omega
      have e2 : (x : Int) ≠ 9218868437227405312 := by omega
      by_cases h0 : rg x = 0
      · have : nx x = 1 := by unfold nx; rw [if_pos h0]
        rw [this]
        refine (iNext_zero hx n h0 rfl e1 e2 w).mono ?_
        rintro e w' ⟨rfl, rfl⟩
        exact ⟨_, rfl, by omega, rfl, rfl⟩
      · have h00 : 0 < x := by simp only [rg] at h0; omega
        have h11 : x < 18446744073709551615 := by unfold Num at n; omega
        refine (iNext_some (X := (x : Int)) (Y := (nx x : Nat)) hx n h0 rfl (by omega) (by omega) (by omega) e1 e2 ?_ (fun w => iOf_any m2 w) w).mono ?_
        · unfold nx
          rw [if_neg h0]
          by_cases hs : sg x = true
          · rw [if_pos hs, if_pos hs]; omega
          · rw [if_neg hs, if_neg hs]; omega
        · rintro e w' ⟨rfl, rfl⟩
          exact ⟨_, rfl, by rw [fb_num m1]; exact m2, cl_fb _, rfl⟩
  · refine (iNext_self (X := 9221120237041090560) hx (by rw [fb_nan n]; rfl) (Or.inl rfl) w).mono ?_
    rintro e w' ⟨rfl, rfl⟩
    exact ⟨_, rfl, hx, by rw [cl_nan n]; simp [nextC, n], rfl⟩
end Go.Proofs.Ytbhpdlhmkmkbhaa
