/- The lock-in: the program, whole. -/
import Derived.Test.YtkkajcdjkfbcgaaLk
import Derived.Handy
import Derived.Deep.RegionHeld3
namespace Go.Proofs.Ytkkajcdjkfbcgaa
open Go.RowKit
set_option linter.unusedVariables false
set_option linter.unusedSimpArgs false
abbrev Qv (c x y : Int) : Value := .agg #[.int .i64 c, .int .i64 x, .int .i64 y]
set_option maxRecDepth 20000 in
set_option maxHeartbeats 3200000 in
theorem lock_i1 {w : World} {v : Value} {n : Nat} {f : Nat → Int} {P : Int} (h : RdRow w v n f) (hn : n ≤ 2000000) (hf : ¬ Lform n P) : Calls Try.prog 16 #[v, .int .i64 P] w fun e w' => e = .returned (Qv 1 0 0) ∧ Below w.heap.size w w' := by
  have HC : Hid (∀ W, Below w.heap.size w W → Calls Try.prog 57 #[v, .int .i64 P] W fun e w' => e = .returned (.int .i64 1) ∧ W = w') := fun W b => lockF_form (h.later b) hn hf
  obtain ⟨ao, cap, rfl, hc⟩ := h.at
  clear h hc
  go_enter Try.func16, Try.ntmps16
  go_wp2_with fail
  refine (HC.out _ ((Below.refl _ _).alloc (Nat.le_refl _) _)).mono ?_
  rintro e w1 ⟨rfl, rfl⟩
  go_wp2
  refine bodyPost_ret (v := Qv 1 0 0) (by simp [results, Try.results16, go_sem]) rfl ⟨rfl, by go_grown⟩
set_option maxRecDepth 20000 in
set_option maxHeartbeats 3200000 in
theorem lock_i2 {w : World} {v : Value} {n : Nat} {f : Nat → Int} {P : Int} (h : RdRow w v n f) (hn : n ≤ 2000000) (hf : Lform n P) (h4 : 4000 < n) : Calls Try.prog 16 #[v, .int .i64 P] w fun e w' => e = .returned (Qv 2 0 0) ∧ Below w.heap.size w w' := by
  have HC : Hid (∀ W, Below w.heap.size w W → Calls Try.prog 57 #[v, .int .i64 P] W fun e w' => e = .returned (.int .i64 2) ∧ W = w') := fun W b => lockF_many (h.later b) hn hf h4
  obtain ⟨ao, cap, rfl, hc⟩ := h.at
  clear h hc
  go_enter Try.func16, Try.ntmps16
  go_wp2_with fail
  refine (HC.out _ ((Below.refl _ _).alloc (Nat.le_refl _) _)).mono ?_
  rintro e w1 ⟨rfl, rfl⟩
  go_wp2
  refine bodyPost_ret (v := Qv 2 0 0) (by simp [results, Try.results16, go_sem]) rfl ⟨rfl, by go_grown⟩
set_option maxRecDepth 20000 in
set_option maxHeartbeats 3200000 in
theorem lock_i3 {w : World} {v : Value} {n : Nat} {f : Nat → Int} {P : Int} (h : RdRow w v n f) (hn : n ≤ 2000000) (hf : Lform n P) (h4 : n ≤ 4000) (hb : ¬ InB f n) : Calls Try.prog 16 #[v, .int .i64 P] w fun e w' => e = .returned (Qv 3 0 0) ∧ Below w.heap.size w w' := by
  have HC : Hid (∀ W, Below w.heap.size w W → Calls Try.prog 57 #[v, .int .i64 P] W fun e w' => e = .returned (.int .i64 3) ∧ W = w') := fun W b => lockF_bad (h.later b) hn hf h4 hb
  obtain ⟨ao, cap, rfl, hc⟩ := h.at
  clear h hc
  go_enter Try.func16, Try.ntmps16
  go_wp2_with fail
  refine (HC.out _ ((Below.refl _ _).alloc (Nat.le_refl _) _)).mono ?_
  rintro e w1 ⟨rfl, rfl⟩
  go_wp2
  refine bodyPost_ret (v := Qv 3 0 0) (by simp [results, Try.results16, go_sem]) rfl ⟨rfl, by go_grown⟩
set_option maxRecDepth 20000 in
set_option maxHeartbeats 3200000 in
theorem lock_i0 {w : World} {v : Value} {n : Nat} {f : Nat → Int} {P : Int} (h : RdRow w v n f) (hn : n ≤ 2000000) (hf : Lform n P) (h4 : n ≤ 4000) (hb : InB f n) : Calls Try.prog 16 #[v, .int .i64 P] w fun e w' => e = .returned (Qv 0 (lsum f P 0 n) (lsum f P (P / 4) n)) ∧ Below w.heap.size w w' := by
  have HC : Hid (∀ W, Below w.heap.size w W → Calls Try.prog 57 #[v, .int .i64 P] W fun e w' => e = .returned (.int .i64 0) ∧ W = w') := fun W b => lockF_ok (h.later b) hn hf h4 hb
  have H0 : Hid (∀ W, Below w.heap.size w W → Calls Try.prog 58 #[v, .int .i64 P, .int .i64 0] W fun e w' => e = .returned (.int .i64 (lsum f P 0 n)) ∧ W = w') := fun W b => locked_any (h.later b) hb h4 hf.p0 hf.p1 (by omega) (by omega)
  have H4 : Hid (∀ W, Below w.heap.size w W → Calls Try.prog 58 #[v, .int .i64 P, .int .i64 (P / 4)] W fun e w' => e = .returned (.int .i64 (lsum f P (P / 4) n)) ∧ W = w') := fun W b => locked_any (h.later b) hb h4 hf.p0 hf.p1 (by have := hf.p0; omega) (by have := hf.p1; have := hf.p0; omega)
  have e4 : P.tdiv 4 = P / 4 := Int.tdiv_eq_ediv_of_nonneg (by have := hf.p0; omega)
  have q0 := hf.p0
  have q1 := hf.p1
  obtain ⟨X, hX⟩ : ∃ X, X = lsum f P 0 n := ⟨_, rfl⟩
  obtain ⟨Y, hY⟩ : ∃ X, X = lsum f P (P / 4) n := ⟨_, rfl⟩
  obtain ⟨A, hA⟩ : ∃ A, A = P / 4 := ⟨_, rfl⟩
  have a0 : 0 ≤ A := by omega
  have a1 : A ≤ 1000 := by omega
  rw [← hX] at H0 ⊢
  rw [← hY] at H4 ⊢
  rw [← hA] at H4 e4
  clear hX hY hA
  obtain ⟨ao, cap, rfl, hc⟩ := h.at
  clear h hc
  go_enter Try.func16, Try.ntmps16
  go_wp2_with fail
  refine (HC.out _ ((Below.refl _ _).alloc (Nat.le_refl _) _)).mono ?_
  rintro e w1 ⟨rfl, rfl⟩
  go_wp2_with fail
  refine (H0.out _ ((Below.refl _ _).alloc (Nat.le_refl _) _)).mono ?_
  rintro e w1 ⟨rfl, rfl⟩
  go_wp2_with fail
  refine (H4.out _ ((Below.refl _ _).alloc (Nat.le_refl _) _)).mono ?_
  rintro e w1 ⟨rfl, rfl⟩
  go_wp2
  refine bodyPost_ret (v := Qv 0 X Y) (by simp [results, Try.results16, go_sem]) rfl ⟨rfl, by go_grown⟩
end Go.Proofs.Ytkkajcdjkfbcgaa
