/- Books of light over residues: one side of a plate, both packages: contracts. -/
import Derived.Test.YtigkfngbiicfaaaPl
import Derived.Deep.RegionHeld3
import Derived.OwnWalk
namespace Go.Proofs.Ytigkfngbiicfaaa
open Go.RowKit
set_option linter.unusedVariables false
namespace Wv
open Rm
/-- b, c, u, r and t of a plate between two media. -/
def kb (A B y : Int) : Int := addM A (mulM B y)
def ku (A B C D x y : Int) : Int := addM (mulM x (kb A B y)) (kb C D y)
def kr (A B C D x y : Int) : Int := mulM (addM (mulM x (kb A B y)) (-(kb C D y))) (invM (ku A B C D x y))
def kt (A B C D x y : Int) : Int := mulM (addM x x) (invM (ku A B C D x y))
theorem two_b (A B y : Int) : addM (mulM A 1) (mulM B y) = kb A B y := by
  unfold kb; rw [addM_eq, addM_eq, mulM_eq, Int.mul_one]; omega
theorem two_u (A B C D x y : Int) : addM (mulM x (kb A B y)) (mulM (kb C D y) 1) = ku A B C D x y := by
  unfold ku; rw [addM_eq, addM_eq, mulM_eq (kb C D y), Int.mul_one]; omega
theorem two_r (A B C D x y : Int) : addM (mulM x (kb A B y)) (mulM (kb C D y) (-1)) = addM (mulM x (kb A B y)) (-(kb C D y)) := by
  rw [addM_eq, addM_eq, mulM_eq (kb C D y)]; omega
theorem two_t (x : Int) : mulM 2 x = addM x x := by rw [mulM_eq, addM_eq]; congr 1; omega
end Wv
set_option maxHeartbeats 1000000 in
theorem iTwo_any (a b c d : Int) (w : World) : Calls Try.prog 67 #[.int .i64 a, .int .i64 b, .int .i64 c, .int .i64 d] w fun e w' => e = .returned (.int .i64 (Rm.addM (Rm.mulM a b) (Rm.mulM c d))) ∧ w = w' := by
  go_enter Try.func67, Try.ntmps67
  go_wp2_with fail
  refine (iMul_any _ _ _).mono ?_
  rintro e w1 ⟨rfl, rfl⟩
  go_wp2_with fail
  refine (iMul_any _ _ _).mono ?_
  rintro e w1 ⟨rfl, rfl⟩
  go_wp2_with fail
  refine (iAdd_any _ _ _).mono ?_
  rintro e w1 ⟨rfl, rfl⟩
  go_wp2
  go_ret
  exact ⟨rfl, rfl⟩
set_option maxHeartbeats 1000000 in
theorem sTwo_any (a b c d : Int) (w : World) : Calls Try.prog 60 #[.int .i64 a, .int .i64 b, .int .i64 c, .int .i64 d] w fun e w' => e = .returned (.int .i64 (Rm.addM (Rm.mulM a b) (Rm.mulM c d))) ∧ w = w' := by
  go_enter Try.func60, Try.ntmps60
  go_wp2_with fail
  refine (sMul_any _ _ _).mono ?_
  rintro e w1 ⟨rfl, rfl⟩
  go_wp2_with fail
  refine (sMul_any _ _ _).mono ?_
  rintro e w1 ⟨rfl, rfl⟩
  go_wp2_with fail
  refine (sAdd_any _ _ _).mono ?_
  rintro e w1 ⟨rfl, rfl⟩
  go_wp2
  go_ret
  exact ⟨rfl, rfl⟩
set_option maxHeartbeats 2000000 in
theorem sBook_no (A B C D x y : Int) (h : Wv.ku A B C D x y = 0) (w : World) : Calls Try.prog 62 #[.agg #[.int .i64 A, .int .i64 B, .int .i64 C, .int .i64 D], .int .i64 x, .int .i64 y] w fun e w' => e = .returned (.tuple #[.int .i64 0, .int .i64 0, .bool false]) ∧ Below w.heap.size w w' := by
  obtain ⟨b, hb⟩ : ∃ b, b = Wv.kb A B y := ⟨_, rfl⟩
  obtain ⟨c, hc⟩ : ∃ c, c = Wv.kb C D y := ⟨_, rfl⟩
  obtain ⟨u, hu⟩ : ∃ u, u = Wv.ku A B C D x y := ⟨_, rfl⟩
  have hc1 : 0 ≤ c := by rw [hc]; exact Rm.addM_lo _ _
  have hc2 : c < 998244353 := by rw [hc]; exact Rm.addM_hi _ _
  have HB : Hid (Rm.addM A (Rm.mulM B y) = b) := hb.symm
  have HC : Hid (Rm.addM C (Rm.mulM D y) = c) := hc.symm
  have HU : Hid (Rm.addM (Rm.mulM x b) c = u) := by rw [hb, hc, hu]; rfl
  rw [← hu] at h
  have e1 : Wv.kr A B C D x y = Rm.mulM (Rm.addM (Rm.mulM x b) (-c)) (Rm.invM u) := by rw [hb, hc, hu]; rfl
  have e2 : Wv.kt A B C D x y = Rm.mulM (Rm.addM x x) (Rm.invM u) := by rw [hu]; rfl
  try rw [e1, e2]
  have hz : (u == 0) = true := by simp [h]
  clear hb hc hu e1 e2 h
  go_enter Try.func62, Try.ntmps62
  go_upto_region 1 with fail
  obtain ⟨X, hX⟩ : ∃ X, X = w.alloc (.cells #[.int .i64 A, .int .i64 B, .int .i64 C, .int .i64 D] 34) := ⟨_, rfl⟩
  rw [← hX]
  have bx : X.heap[w.heap.size]? = some (.cells #[.int .i64 A, .int .i64 B, .int .i64 C, .int .i64 D] 34 (0, 0)) := by rw [hX]; exact heap_alloc_new _ _
  have c0 : X.cell? ⟨w.heap.size, 0, none⟩ = some (.int .i64 A) := by simp [World.cell?, bx]
  have c1 : X.cell? ⟨w.heap.size, 1, none⟩ = some (.int .i64 B) := by simp [World.cell?, bx]
  have c2 : X.cell? ⟨w.heap.size, 2, none⟩ = some (.int .i64 C) := by simp [World.cell?, bx]
  have c3 : X.cell? ⟨w.heap.size, 3, none⟩ = some (.int .i64 D) := by simp [World.cell?, bx]
  have BL : Hid (Below w.heap.size w X) := by rw [hX]; exact (Below.refl _ _).alloc (Nat.le_refl _) _
  clear hX bx
  go_region_held3 (fun W => W.cell? ⟨w.heap.size, 0, none⟩ = some (.int .i64 A) ∧ W.cell? ⟨w.heap.size, 1, none⟩ = some (.int .i64 B)) (go_keep) (first | (go_at_call 36; refine (sMul_any _ _ _).mono ?_; rintro e w1 ⟨rfl, rfl⟩) | (go_at_call 43; refine (sAdd_any _ _ _).mono ?_; rintro e w1 ⟨rfl, rfl⟩))
  rw [HB.out]
  go_upto_region 2 with fail
  go_region_held3 (fun W => W.cell? ⟨w.heap.size, 2, none⟩ = some (.int .i64 C) ∧ W.cell? ⟨w.heap.size, 3, none⟩ = some (.int .i64 D)) (go_keep) (first | (go_at_call 36; refine (sMul_any _ _ _).mono ?_; rintro e w1 ⟨rfl, rfl⟩) | (go_at_call 43; refine (sAdd_any _ _ _).mono ?_; rintro e w1 ⟨rfl, rfl⟩))
  rw [HC.out]
  go_wp2_with fail
  refine (sMul_any _ _ _).mono ?_
  rintro e w1 ⟨rfl, rfl⟩
  go_wp2_with fail
  refine (sAdd_any _ _ _).mono ?_
  rintro e w1 ⟨rfl, rfl⟩
  rw [HU.out]
  go_wp2
  go_ret3
  exact ⟨rfl, by have := BL.out; go_grown⟩
set_option maxHeartbeats 2000000 in
theorem sBook_yes (A B C D x y : Int) (h : Wv.ku A B C D x y ≠ 0) (w : World) : Calls Try.prog 62 #[.agg #[.int .i64 A, .int .i64 B, .int .i64 C, .int .i64 D], .int .i64 x, .int .i64 y] w fun e w' => e = .returned (.tuple #[.int .i64 (Wv.kr A B C D x y), .int .i64 (Wv.kt A B C D x y), .bool true]) ∧ Below w.heap.size w w' := by
  obtain ⟨b, hb⟩ : ∃ b, b = Wv.kb A B y := ⟨_, rfl⟩
  obtain ⟨c, hc⟩ : ∃ c, c = Wv.kb C D y := ⟨_, rfl⟩
  obtain ⟨u, hu⟩ : ∃ u, u = Wv.ku A B C D x y := ⟨_, rfl⟩
  have hc1 : 0 ≤ c := by rw [hc]; exact Rm.addM_lo _ _
  have hc2 : c < 998244353 := by rw [hc]; exact Rm.addM_hi _ _
  have HB : Hid (Rm.addM A (Rm.mulM B y) = b) := hb.symm
  have HC : Hid (Rm.addM C (Rm.mulM D y) = c) := hc.symm
  have HU : Hid (Rm.addM (Rm.mulM x b) c = u) := by rw [hb, hc, hu]; rfl
  rw [← hu] at h
  have e1 : Wv.kr A B C D x y = Rm.mulM (Rm.addM (Rm.mulM x b) (-c)) (Rm.invM u) := by rw [hb, hc, hu]; rfl
  have e2 : Wv.kt A B C D x y = Rm.mulM (Rm.addM x x) (Rm.invM u) := by rw [hu]; rfl
  try rw [e1, e2]
  have hz : (u == 0) = false := by simp [h]
  clear hb hc hu e1 e2 h
  go_enter Try.func62, Try.ntmps62
  go_upto_region 1 with fail
  obtain ⟨X, hX⟩ : ∃ X, X = w.alloc (.cells #[.int .i64 A, .int .i64 B, .int .i64 C, .int .i64 D] 34) := ⟨_, rfl⟩
  rw [← hX]
  have bx : X.heap[w.heap.size]? = some (.cells #[.int .i64 A, .int .i64 B, .int .i64 C, .int .i64 D] 34 (0, 0)) := by rw [hX]; exact heap_alloc_new _ _
  have c0 : X.cell? ⟨w.heap.size, 0, none⟩ = some (.int .i64 A) := by simp [World.cell?, bx]
  have c1 : X.cell? ⟨w.heap.size, 1, none⟩ = some (.int .i64 B) := by simp [World.cell?, bx]
  have c2 : X.cell? ⟨w.heap.size, 2, none⟩ = some (.int .i64 C) := by simp [World.cell?, bx]
  have c3 : X.cell? ⟨w.heap.size, 3, none⟩ = some (.int .i64 D) := by simp [World.cell?, bx]
  have BL : Hid (Below w.heap.size w X) := by rw [hX]; exact (Below.refl _ _).alloc (Nat.le_refl _) _
  clear hX bx
  go_region_held3 (fun W => W.cell? ⟨w.heap.size, 0, none⟩ = some (.int .i64 A) ∧ W.cell? ⟨w.heap.size, 1, none⟩ = some (.int .i64 B)) (go_keep) (first | (go_at_call 36; refine (sMul_any _ _ _).mono ?_; rintro e w1 ⟨rfl, rfl⟩) | (go_at_call 43; refine (sAdd_any _ _ _).mono ?_; rintro e w1 ⟨rfl, rfl⟩))
  rw [HB.out]
  go_upto_region 2 with fail
  go_region_held3 (fun W => W.cell? ⟨w.heap.size, 2, none⟩ = some (.int .i64 C) ∧ W.cell? ⟨w.heap.size, 3, none⟩ = some (.int .i64 D)) (go_keep) (first | (go_at_call 36; refine (sMul_any _ _ _).mono ?_; rintro e w1 ⟨rfl, rfl⟩) | (go_at_call 43; refine (sAdd_any _ _ _).mono ?_; rintro e w1 ⟨rfl, rfl⟩))
  rw [HC.out]
  go_wp2_with fail
  refine (sMul_any _ _ _).mono ?_
  rintro e w1 ⟨rfl, rfl⟩
  go_wp2_with fail
  refine (sAdd_any _ _ _).mono ?_
  rintro e w1 ⟨rfl, rfl⟩
  rw [HU.out]
  go_wp2_with fail
  refine (sMul_any _ _ _).mono ?_
  rintro e w1 ⟨rfl, rfl⟩
  go_wp2_with fail
  refine (sAdd_any _ _ _).mono ?_
  rintro e w1 ⟨rfl, rfl⟩
  go_wp2_with fail
  refine (sInv_any _ _).mono ?_
  rintro e w1 ⟨rfl, rfl⟩
  go_wp2_with fail
  refine (sMul_any _ _ _).mono ?_
  rintro e w1 ⟨rfl, rfl⟩
  go_wp2_with fail
  refine (sAdd_any _ _ _).mono ?_
  rintro e w1 ⟨rfl, rfl⟩
  go_wp2_with fail
  refine (sInv_any _ _).mono ?_
  rintro e w1 ⟨rfl, rfl⟩
  go_wp2_with fail
  refine (sMul_any _ _ _).mono ?_
  rintro e w1 ⟨rfl, rfl⟩
  go_wp2
  go_ret3
  exact ⟨rfl, by have := BL.out; go_grown⟩
end Go.Proofs.Ytigkfngbiicfaaa
