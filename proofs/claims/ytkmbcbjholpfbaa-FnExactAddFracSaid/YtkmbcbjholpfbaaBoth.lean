/- Two fractions, both right or not; comparing, and the floor: the specification's and the program's way. -/
import Derived.Test.YtkmbcbjholpfbaaLow
import Derived.Handy
namespace Go.Proofs.Ytkmbcbjholpfbaa
open Go.RowKit
theorem fault_eq (n d : Int) : (fault n d == 0) = rightB n d := by unfold fault; cases rightB n d <;> simp
theorem fault_ne (n d : Int) : (fault n d != 0) = !rightB n d := by unfold fault; cases rightB n d <;> simp
theorem right_t {n d : Int} (h : rightB n d = true) : 1 ≤ d ∧ d ≤ 1000000000 ∧ -1000000000 ≤ n ∧ n ≤ 1000000000 ∧ Int.gcd n d = 1 := by
  unfold rightB at h
  simp only [Bool.and_eq_true, decide_eq_true_eq] at h
  obtain ⟨a, b, c, d⟩ := inB_t h.1
  exact ⟨a, b, c, d, h.2⟩
set_option maxHeartbeats 400000 in
theorem both_1 (a b c d : Int) (w : World) (h : rightB a b = false) :
    Calls Try.prog 40 #[.agg #[.int .i64 a, .int .i64 b], .agg #[.int .i64 c, .int .i64 d]] w fun e w' => e = .returned (.bool (rightB a b && rightB c d)) ∧ Below w.heap.size w w' := by
  rw [h]
  have q := fault_eq a b
  rw [h] at q
  go_enter Try.func40, Try.ntmps40
  go_wp2_with fail
  refine (sfault a b _).mono ?_
  rintro e w1 ⟨rfl, hb1⟩
  have H1 : Below w.heap.size w w1 := by refine box_step ?_ hb1 (by simp); go_grown
  clear hb1
  go_wp2
  go_ret
  exact ⟨rfl, H1⟩
set_option maxHeartbeats 400000 in
theorem both_2 (a b c d : Int) (w : World) (h : rightB a b = true) :
    Calls Try.prog 40 #[.agg #[.int .i64 a, .int .i64 b], .agg #[.int .i64 c, .int .i64 d]] w fun e w' => e = .returned (.bool (rightB a b && rightB c d)) ∧ Below w.heap.size w w' := by
  rw [h]
  have q := fault_eq a b
  have q2 := fault_eq c d
  rw [h] at q
  go_enter Try.func40, Try.ntmps40
  go_wp2_with fail
  refine (sfault a b _).mono ?_
  rintro e w1 ⟨rfl, hb1⟩
  have H1 : Hid (Below w.heap.size w w1) := by refine box_step ?_ hb1 (by simp); go_grown
  have c0 := hb1.cell (p := ⟨w.heap.size + 1, 0, none⟩) (by simp)
  have c1 := hb1.cell (p := ⟨w.heap.size + 1, 1, none⟩) (by simp)
  simp at c0 c1
  clear hb1
  go_wp2_with fail
  refine (sfault c d _).mono ?_
  rintro e w2 ⟨rfl, hb2⟩
  have H2 : Below w.heap.size w w2 := box_step H1.out hb2 (Nat.le_refl _)
  clear hb2
  go_wp2
  go_ret
  exact ⟨by simp, H2⟩
theorem both (a b c d : Int) (w : World) :
    Calls Try.prog 40 #[.agg #[.int .i64 a, .int .i64 b], .agg #[.int .i64 c, .int .i64 d]] w fun e w' => e = .returned (.bool (rightB a b && rightB c d)) ∧ Below w.heap.size w w' := by
  cases h : rightB a b
  · have := both_1 a b c d w h
    rwa [h] at this
  · have := both_2 a b c d w h
    rwa [h] at this
set_option maxHeartbeats 400000 in
theorem anyf_1 (a b c d : Int) (w : World) (h : rightB a b = false) :
    Calls Try.prog 41 #[.agg #[.int .i64 a, .int .i64 b], .agg #[.int .i64 c, .int .i64 d]] w fun e w' => e = .returned (.bool (!(rightB a b && rightB c d))) ∧ Below w.heap.size w w' := by
  rw [h]
  have q := fault_ne a b
  rw [h] at q
  simp only [Bool.not_false] at q
  go_enter Try.func41, Try.ntmps41
  go_wp2_with fail
  refine (ifault a b _).mono ?_
  rintro e w1 ⟨rfl, hb1⟩
  have H1 : Below w.heap.size w w1 := by refine box_step ?_ hb1 (by simp); go_grown
  clear hb1
  go_wp2
  go_ret
  exact ⟨rfl, H1⟩
set_option maxHeartbeats 400000 in
theorem anyf_2 (a b c d : Int) (w : World) (h : rightB a b = true) :
    Calls Try.prog 41 #[.agg #[.int .i64 a, .int .i64 b], .agg #[.int .i64 c, .int .i64 d]] w fun e w' => e = .returned (.bool (!(rightB a b && rightB c d))) ∧ Below w.heap.size w w' := by
  rw [h]
  have q := fault_ne a b
  have q2 := fault_ne c d
  rw [h] at q
  simp only [Bool.not_true] at q
  go_enter Try.func41, Try.ntmps41
  go_wp2_with fail
  refine (ifault a b _).mono ?_
  rintro e w1 ⟨rfl, hb1⟩
  have H1 : Hid (Below w.heap.size w w1) := by refine box_step ?_ hb1 (by simp); go_grown
  have c0 := hb1.cell (p := ⟨w.heap.size + 1, 0, none⟩) (by simp)
  have c1 := hb1.cell (p := ⟨w.heap.size + 1, 1, none⟩) (by simp)
  simp at c0 c1
  clear hb1
  go_wp2_with fail
  refine (ifault c d _).mono ?_
  rintro e w2 ⟨rfl, hb2⟩
  have H2 : Below w.heap.size w w2 := box_step H1.out hb2 (Nat.le_refl _)
  clear hb2
  go_wp2
  go_ret
  exact ⟨by simp, H2⟩
theorem anyf (a b c d : Int) (w : World) :
    Calls Try.prog 41 #[.agg #[.int .i64 a, .int .i64 b], .agg #[.int .i64 c, .int .i64 d]] w fun e w' => e = .returned (.bool (!(rightB a b && rightB c d))) ∧ Below w.heap.size w w' := by
  cases h : rightB a b
  · have := anyf_1 a b c d w h
    rwa [h] at this
  · have := anyf_2 a b c d w h
    rwa [h] at this
/-- The floor of a right fraction; nought of another. -/
def floorF (n d : Int) : Int := if rightB n d = true then (if n.tmod d < 0 then n.tdiv d - 1 else n.tdiv d) else 0
set_option maxHeartbeats 400000 in
theorem sfloor_no (n d : Int) (w : World) (h : rightB n d = false) :
    Calls Try.prog 28 #[.agg #[.int .i64 n, .int .i64 d]] w fun e w' => e = .returned (.int .i64 (floorF n d)) ∧ Below w.heap.size w w' := by
  rw [show floorF n d = 0 by simp [floorF, h]]
  have q := fault_ne n d
  rw [h] at q
  simp only [Bool.not_false] at q
  go_enter Try.func28, Try.ntmps28
  go_wp2_with fail
  refine (sfault n d _).mono ?_
  rintro e w1 ⟨rfl, hb1⟩
  have H1 : Below w.heap.size w w1 := box_out (hb1.mono (by simp))
  clear hb1
  go_wp2
  go_ret
  exact ⟨rfl, H1⟩
set_option maxHeartbeats 400000 in
theorem sfloor_neg (n d : Int) (w : World) (h : rightB n d = true) (hm : n.tmod d < 0) :
    Calls Try.prog 28 #[.agg #[.int .i64 n, .int .i64 d]] w fun e w' => e = .returned (.int .i64 (floorF n d)) ∧ Below w.heap.size w w' := by
  obtain ⟨h1, h2, h3, h4, _⟩ := right_t h
  rw [show floorF n d = n.tdiv d - 1 by simp [floorF, h, hm]]
  have q := fault_ne n d
  rw [h] at q
  simp only [Bool.not_true] at q
  have hz : (d == 0) = false := by rw [beq_eq_false_iff_ne]; omega
  have b1 := Fm.tdiv_bd n d.toNat
  rw [show ((d.toNat : Nat) : Int) = d by omega] at b1
  have b2 : -1000000000 ≤ n.tdiv d := by omega
  have b3 : n.tdiv d ≤ 1000000000 := by omega
  clear b1
  go_enter Try.func28, Try.ntmps28
  go_wp2_with fail
  refine (sfault n d _).mono ?_
  rintro e w1 ⟨rfl, hb1⟩
  have H1 : Hid (Below w.heap.size w w1) := box_out (hb1.mono (by simp))
  obtain ⟨c0, c1⟩ := box2 (hb1.mono (by simp))
  clear hb1
  go_wp2
  go_ret
  exact ⟨rfl, H1.out⟩
set_option maxHeartbeats 400000 in
theorem sfloor_pos (n d : Int) (w : World) (h : rightB n d = true) (hm : ¬ n.tmod d < 0) :
    Calls Try.prog 28 #[.agg #[.int .i64 n, .int .i64 d]] w fun e w' => e = .returned (.int .i64 (floorF n d)) ∧ Below w.heap.size w w' := by
  obtain ⟨h1, h2, h3, h4, _⟩ := right_t h
  rw [show floorF n d = n.tdiv d by simp [floorF, h, hm]]
  have q := fault_ne n d
  rw [h] at q
  simp only [Bool.not_true] at q
  have hz : (d == 0) = false := by rw [beq_eq_false_iff_ne]; omega
  have b1 := Fm.tdiv_bd n d.toNat
  rw [show ((d.toNat : Nat) : Int) = d by omega] at b1
  have b2 : -1000000000 ≤ n.tdiv d := by omega
  have b3 : n.tdiv d ≤ 1000000000 := by omega
  clear b1
  go_enter Try.func28, Try.ntmps28
  go_wp2_with fail
  refine (sfault n d _).mono ?_
  rintro e w1 ⟨rfl, hb1⟩
  have H1 : Hid (Below w.heap.size w w1) := box_out (hb1.mono (by simp))
  obtain ⟨c0, c1⟩ := box2 (hb1.mono (by simp))
  clear hb1
  go_wp2
  go_ret
  exact ⟨rfl, H1.out⟩
theorem sfloor (n d : Int) (w : World) :
    Calls Try.prog 28 #[.agg #[.int .i64 n, .int .i64 d]] w fun e w' => e = .returned (.int .i64 (floorF n d)) ∧ Below w.heap.size w w' := by
  cases h : rightB n d
  · exact sfloor_no n d w h
  by_cases hm : n.tmod d < 0
  · exact sfloor_neg n d w h hm
  · exact sfloor_pos n d w h hm
set_option maxHeartbeats 400000 in
theorem ifloor_no (n d : Int) (w : World) (h : rightB n d = false) :
    Calls Try.prog 29 #[.agg #[.int .i64 n, .int .i64 d]] w fun e w' => e = .returned (.int .i64 (floorF n d)) ∧ Below w.heap.size w w' := by
  rw [show floorF n d = 0 by simp [floorF, h]]
  have q := fault_ne n d
  rw [h] at q
  simp only [Bool.not_false] at q
  go_enter Try.func29, Try.ntmps29
  go_wp2_with fail
  refine (ifault n d _).mono ?_
  rintro e w1 ⟨rfl, hb1⟩
  have H1 : Below w.heap.size w w1 := box_out (hb1.mono (by simp))
  clear hb1
  go_wp2
  go_ret
  exact ⟨rfl, H1⟩
set_option maxHeartbeats 400000 in
theorem ifloor_neg (n d : Int) (w : World) (h : rightB n d = true) (hm : n.tmod d < 0) :
    Calls Try.prog 29 #[.agg #[.int .i64 n, .int .i64 d]] w fun e w' => e = .returned (.int .i64 (floorF n d)) ∧ Below w.heap.size w w' := by
  obtain ⟨h1, h2, h3, h4, _⟩ := right_t h
  rw [show floorF n d = n.tdiv d - 1 by simp [floorF, h, hm]]
  have q := fault_ne n d
  rw [h] at q
  simp only [Bool.not_true] at q
  have hz : (d == 0) = false := by rw [beq_eq_false_iff_ne]; omega
  have b1 := Fm.tdiv_bd n d.toNat
  rw [show ((d.toNat : Nat) : Int) = d by omega] at b1
  have b2 : -1000000000 ≤ n.tdiv d := by omega
  have b3 : n.tdiv d ≤ 1000000000 := by omega
  clear b1
  go_enter Try.func29, Try.ntmps29
  go_wp2_with fail
  refine (ifault n d _).mono ?_
  rintro e w1 ⟨rfl, hb1⟩
  have H1 : Hid (Below w.heap.size w w1) := box_out (hb1.mono (by simp))
  obtain ⟨c0, c1⟩ := box2 (hb1.mono (by simp))
  clear hb1
  go_wp2
  go_ret
  exact ⟨rfl, H1.out⟩
set_option maxHeartbeats 400000 in
theorem ifloor_pos (n d : Int) (w : World) (h : rightB n d = true) (hm : ¬ n.tmod d < 0) :
    Calls Try.prog 29 #[.agg #[.int .i64 n, .int .i64 d]] w fun e w' => e = .returned (.int .i64 (floorF n d)) ∧ Below w.heap.size w w' := by
  obtain ⟨h1, h2, h3, h4, _⟩ := right_t h
  rw [show floorF n d = n.tdiv d by simp [floorF, h, hm]]
  have q := fault_ne n d
  rw [h] at q
  simp only [Bool.not_true] at q
  have hz : (d == 0) = false := by rw [beq_eq_false_iff_ne]; omega
  have b1 := Fm.tdiv_bd n d.toNat
  rw [show ((d.toNat : Nat) : Int) = d by omega] at b1
  have b2 : -1000000000 ≤ n.tdiv d := by omega
  have b3 : n.tdiv d ≤ 1000000000 := by omega
  clear b1
  go_enter Try.func29, Try.ntmps29
  go_wp2_with fail
  refine (ifault n d _).mono ?_
  rintro e w1 ⟨rfl, hb1⟩
  have H1 : Hid (Below w.heap.size w w1) := box_out (hb1.mono (by simp))
  obtain ⟨c0, c1⟩ := box2 (hb1.mono (by simp))
  clear hb1
  go_wp2
  go_ret
  exact ⟨rfl, H1.out⟩
theorem ifloor (n d : Int) (w : World) :
    Calls Try.prog 29 #[.agg #[.int .i64 n, .int .i64 d]] w fun e w' => e = .returned (.int .i64 (floorF n d)) ∧ Below w.heap.size w w' := by
  cases h : rightB n d
  · exact ifloor_no n d w h
  by_cases hm : n.tmod d < 0
  · exact ifloor_neg n d w h hm
  · exact ifloor_pos n d w h hm
/-- -1, 0, 1 of two right fractions; 0 else. -/
def cmpF (a b c d : Int) : Int := if (rightB a b && rightB c d) = true then (if a * d < c * b then -1 else if c * b < a * d then 1 else 0) else 0
theorem mul_bd (a d : Int) (h1 : -1000000000 ≤ a) (h2 : a ≤ 1000000000) (h3 : -1000000000 ≤ d) (h4 : d ≤ 1000000000) : -1000000000000000000 ≤ a * d ∧ a * d ≤ 1000000000000000000 := by
  have : (a * d).natAbs ≤ 1000000000 * 1000000000 := by rw [Int.natAbs_mul]; exact Nat.mul_le_mul (by omega) (by omega)
  omega
theorem both_f (a b c d : Int) (h : (rightB a b && rightB c d) = false) (w : World) :
    Calls Try.prog 40 #[.agg #[.int .i64 a, .int .i64 b], .agg #[.int .i64 c, .int .i64 d]] w fun e w' => e = .returned (.bool false) ∧ Below w.heap.size w w' := by
  have := both a b c d w
  rwa [h] at this
theorem both_t (a b c d : Int) (h : (rightB a b && rightB c d) = true) (w : World) :
    Calls Try.prog 40 #[.agg #[.int .i64 a, .int .i64 b], .agg #[.int .i64 c, .int .i64 d]] w fun e w' => e = .returned (.bool true) ∧ Below w.heap.size w w' := by
  have := both a b c d w
  rwa [h] at this
theorem anyf_f (a b c d : Int) (h : (rightB a b && rightB c d) = false) (w : World) :
    Calls Try.prog 41 #[.agg #[.int .i64 a, .int .i64 b], .agg #[.int .i64 c, .int .i64 d]] w fun e w' => e = .returned (.bool true) ∧ Below w.heap.size w w' := by
  have := anyf a b c d w
  rwa [h] at this
theorem anyf_t (a b c d : Int) (h : (rightB a b && rightB c d) = true) (w : World) :
    Calls Try.prog 41 #[.agg #[.int .i64 a, .int .i64 b], .agg #[.int .i64 c, .int .i64 d]] w fun e w' => e = .returned (.bool false) ∧ Below w.heap.size w w' := by
  have := anyf a b c d w
  rwa [h] at this
set_option maxHeartbeats 400000 in
theorem scmp_no (a b c d : Int) (w : World) (h : (rightB a b && rightB c d) = false) :
    Calls Try.prog 26 #[.agg #[.int .i64 a, .int .i64 b], .agg #[.int .i64 c, .int .i64 d]] w fun e w' => e = .returned (.int .i64 (cmpF a b c d)) ∧ Below w.heap.size w w' := by
  rw [show cmpF a b c d = 0 by simp only [cmpF, h, Bool.false_eq_true, if_false]]
  have HH : Hid ((rightB a b && rightB c d) = false) := h
  clear h
  go_enter Try.func26, Try.ntmps26
  go_wp2_with fail
  refine (both_f a b c d HH.out _).mono ?_
  rintro e w1 ⟨rfl, hb1⟩
  have H1 : Below w.heap.size w w1 := by refine box_step ?_ hb1 (by simp); go_grown
  clear hb1
  go_wp2
  go_ret
  exact ⟨rfl, H1⟩
set_option maxHeartbeats 400000 in
theorem scmp_lt (a b c d : Int) (w : World) (h : (rightB a b && rightB c d) = true) (hx : a * d < c * b) :
    Calls Try.prog 26 #[.agg #[.int .i64 a, .int .i64 b], .agg #[.int .i64 c, .int .i64 d]] w fun e w' => e = .returned (.int .i64 (cmpF a b c d)) ∧ Below w.heap.size w w' := by
  rw [show cmpF a b c d = -1 by simp only [cmpF, h, if_true]; rw [if_pos hx]]
  obtain ⟨h1, h2⟩ : rightB a b = true ∧ rightB c d = true := by simpa using h
  obtain ⟨p1, p2, p3, p4, p5⟩ := right_t h1
  obtain ⟨q1, q2, q3, q4, q5⟩ := right_t h2
  obtain ⟨m1, m2⟩ := mul_bd a d p3 p4 (by omega) q2
  obtain ⟨m3, m4⟩ := mul_bd c b q3 q4 (by omega) p2
  have HH : Hid ((rightB a b && rightB c d) = true) := h
  clear h h1 h2 p5 q5
  go_enter Try.func26, Try.ntmps26
  go_wp2_with fail
  refine (both_t a b c d HH.out _).mono ?_
  rintro e w1 ⟨rfl, hb1⟩
  have H1 : Hid (Below w.heap.size w w1) := by refine box_step ?_ hb1 (by simp); go_grown
  have c0 := hb1.cell (p := ⟨w.heap.size, 0, none⟩) (by simp <;> omega)
  have c1 := hb1.cell (p := ⟨w.heap.size, 1, none⟩) (by simp <;> omega)
  have c2 := hb1.cell (p := ⟨w.heap.size + 1, 0, none⟩) (by simp)
  have c3 := hb1.cell (p := ⟨w.heap.size + 1, 1, none⟩) (by simp)
  simp at c0 c1 c2 c3
  clear hb1
  go_wp2
  go_ret
  exact ⟨rfl, H1.out⟩
set_option maxHeartbeats 400000 in
theorem scmp_gt (a b c d : Int) (w : World) (h : (rightB a b && rightB c d) = true) (hx : c * b < a * d) :
    Calls Try.prog 26 #[.agg #[.int .i64 a, .int .i64 b], .agg #[.int .i64 c, .int .i64 d]] w fun e w' => e = .returned (.int .i64 (cmpF a b c d)) ∧ Below w.heap.size w w' := by
  rw [show cmpF a b c d = 1 by simp only [cmpF, h, if_true]; rw [if_neg (show ¬ a * d < c * b by omega), if_pos hx]]
  obtain ⟨h1, h2⟩ : rightB a b = true ∧ rightB c d = true := by simpa using h
  obtain ⟨p1, p2, p3, p4, p5⟩ := right_t h1
  obtain ⟨q1, q2, q3, q4, q5⟩ := right_t h2
  obtain ⟨m1, m2⟩ := mul_bd a d p3 p4 (by omega) q2
  obtain ⟨m3, m4⟩ := mul_bd c b q3 q4 (by omega) p2
  have hy : ¬ a * d < c * b := by omega
  have HH : Hid ((rightB a b && rightB c d) = true) := h
  clear h h1 h2 p5 q5
  go_enter Try.func26, Try.ntmps26
  go_wp2_with fail
  refine (both_t a b c d HH.out _).mono ?_
  rintro e w1 ⟨rfl, hb1⟩
  have H1 : Hid (Below w.heap.size w w1) := by refine box_step ?_ hb1 (by simp); go_grown
  have c0 := hb1.cell (p := ⟨w.heap.size, 0, none⟩) (by simp <;> omega)
  have c1 := hb1.cell (p := ⟨w.heap.size, 1, none⟩) (by simp <;> omega)
  have c2 := hb1.cell (p := ⟨w.heap.size + 1, 0, none⟩) (by simp)
  have c3 := hb1.cell (p := ⟨w.heap.size + 1, 1, none⟩) (by simp)
  simp at c0 c1 c2 c3
  clear hb1
  go_wp2
  go_ret
  exact ⟨rfl, H1.out⟩
set_option maxHeartbeats 400000 in
theorem scmp_eq (a b c d : Int) (w : World) (h : (rightB a b && rightB c d) = true) (hx : a * d = c * b) :
    Calls Try.prog 26 #[.agg #[.int .i64 a, .int .i64 b], .agg #[.int .i64 c, .int .i64 d]] w fun e w' => e = .returned (.int .i64 (cmpF a b c d)) ∧ Below w.heap.size w w' := by
  rw [show cmpF a b c d = 0 by simp only [cmpF, h, if_true]; rw [if_neg (show ¬ a * d < c * b by omega), if_neg (show ¬ c * b < a * d by omega)]]
  obtain ⟨h1, h2⟩ : rightB a b = true ∧ rightB c d = true := by simpa using h
  obtain ⟨p1, p2, p3, p4, p5⟩ := right_t h1
  obtain ⟨q1, q2, q3, q4, q5⟩ := right_t h2
  obtain ⟨m1, m2⟩ := mul_bd a d p3 p4 (by omega) q2
  obtain ⟨m3, m4⟩ := mul_bd c b q3 q4 (by omega) p2
  have hy : ¬ a * d < c * b := by omega
  have hy2 : ¬ c * b < a * d := by omega
  have HX : Hid (a * d = c * b) := hx
  clear hx
  have HH : Hid ((rightB a b && rightB c d) = true) := h
  clear h h1 h2 p5 q5
  go_enter Try.func26, Try.ntmps26
  go_wp2_with fail
  refine (both_t a b c d HH.out _).mono ?_
  rintro e w1 ⟨rfl, hb1⟩
  have H1 : Hid (Below w.heap.size w w1) := by refine box_step ?_ hb1 (by simp); go_grown
  have c0 := hb1.cell (p := ⟨w.heap.size, 0, none⟩) (by simp <;> omega)
  have c1 := hb1.cell (p := ⟨w.heap.size, 1, none⟩) (by simp <;> omega)
  have c2 := hb1.cell (p := ⟨w.heap.size + 1, 0, none⟩) (by simp)
  have c3 := hb1.cell (p := ⟨w.heap.size + 1, 1, none⟩) (by simp)
  simp at c0 c1 c2 c3
  clear hb1
  go_wp2
  go_ret
  exact ⟨rfl, H1.out⟩
set_option maxHeartbeats 400000 in
theorem icmp_no (a b c d : Int) (w : World) (h : (rightB a b && rightB c d) = false) :
    Calls Try.prog 27 #[.agg #[.int .i64 a, .int .i64 b], .agg #[.int .i64 c, .int .i64 d]] w fun e w' => e = .returned (.int .i64 (cmpF a b c d)) ∧ Below w.heap.size w w' := by
  rw [show cmpF a b c d = 0 by simp only [cmpF, h, Bool.false_eq_true, if_false]]
  have HH : Hid ((rightB a b && rightB c d) = false) := h
  clear h
  go_enter Try.func27, Try.ntmps27
  go_wp2_with fail
  refine (anyf_f a b c d HH.out _).mono ?_
  rintro e w1 ⟨rfl, hb1⟩
  have H1 : Below w.heap.size w w1 := by refine box_step ?_ hb1 (by simp); go_grown
  clear hb1
  go_wp2
  go_ret
  exact ⟨rfl, H1⟩
set_option maxHeartbeats 400000 in
theorem icmp_lt_a (a b c d : Int) (w : World) (h : (rightB a b && rightB c d) = true) (hx : a * d < c * b) (hk : a ≠ c) :
    Calls Try.prog 27 #[.agg #[.int .i64 a, .int .i64 b], .agg #[.int .i64 c, .int .i64 d]] w fun e w' => e = .returned (.int .i64 (cmpF a b c d)) ∧ Below w.heap.size w w' := by
  rw [show cmpF a b c d = -1 by simp only [cmpF, h, if_true]; rw [if_pos hx]]
  obtain ⟨h1, h2⟩ : rightB a b = true ∧ rightB c d = true := by simpa using h
  obtain ⟨p1, p2, p3, p4, p5⟩ := right_t h1
  obtain ⟨q1, q2, q3, q4, q5⟩ := right_t h2
  obtain ⟨m1, m2⟩ := mul_bd a d p3 p4 (by omega) q2
  obtain ⟨m3, m4⟩ := mul_bd c b q3 q4 (by omega) p2
  have e1 : (a == c) = false := by rw [beq_eq_false_iff_ne]; exact hk
  have st := st25
  have HH : Hid ((rightB a b && rightB c d) = true) := h
  clear h h1 h2 p5 q5 hk
  go_enter Try.func27, Try.ntmps27
  go_wp2_with fail
  refine (anyf_t a b c d HH.out _).mono ?_
  rintro e w1 ⟨rfl, hb1⟩
  have H1 : Hid (Below w.heap.size w w1) := by refine box_step ?_ hb1 (by simp); go_grown
  have c0 := hb1.cell (p := ⟨w.heap.size, 0, none⟩) (by simp <;> omega)
  have c1 := hb1.cell (p := ⟨w.heap.size, 1, none⟩) (by simp <;> omega)
  have c2 := hb1.cell (p := ⟨w.heap.size + 1, 0, none⟩) (by simp)
  have c3 := hb1.cell (p := ⟨w.heap.size + 1, 1, none⟩) (by simp)
  simp at c0 c1 c2 c3
  clear hb1
  go_wp2
  go_ret
  exact ⟨rfl, H1.out⟩
set_option maxHeartbeats 400000 in
theorem icmp_lt_b (a b c d : Int) (w : World) (h : (rightB a b && rightB c d) = true) (hx : a * d < c * b) (hk : a = c ∧ b ≠ d) :
    Calls Try.prog 27 #[.agg #[.int .i64 a, .int .i64 b], .agg #[.int .i64 c, .int .i64 d]] w fun e w' => e = .returned (.int .i64 (cmpF a b c d)) ∧ Below w.heap.size w w' := by
  rw [show cmpF a b c d = -1 by simp only [cmpF, h, if_true]; rw [if_pos hx]]
  obtain ⟨h1, h2⟩ : rightB a b = true ∧ rightB c d = true := by simpa using h
  obtain ⟨p1, p2, p3, p4, p5⟩ := right_t h1
  obtain ⟨q1, q2, q3, q4, q5⟩ := right_t h2
  obtain ⟨m1, m2⟩ := mul_bd a d p3 p4 (by omega) q2
  obtain ⟨m3, m4⟩ := mul_bd c b q3 q4 (by omega) p2
  have e1 : (a == c) = true := by rw [beq_iff_eq]; exact hk.1
  have e2 : (b == d) = false := by rw [beq_eq_false_iff_ne]; exact hk.2
  have st := st25
  have HH : Hid ((rightB a b && rightB c d) = true) := h
  clear h h1 h2 p5 q5 hk
  go_enter Try.func27, Try.ntmps27
  go_wp2_with fail
  refine (anyf_t a b c d HH.out _).mono ?_
  rintro e w1 ⟨rfl, hb1⟩
  have H1 : Hid (Below w.heap.size w w1) := by refine box_step ?_ hb1 (by simp); go_grown
  have c0 := hb1.cell (p := ⟨w.heap.size, 0, none⟩) (by simp <;> omega)
  have c1 := hb1.cell (p := ⟨w.heap.size, 1, none⟩) (by simp <;> omega)
  have c2 := hb1.cell (p := ⟨w.heap.size + 1, 0, none⟩) (by simp)
  have c3 := hb1.cell (p := ⟨w.heap.size + 1, 1, none⟩) (by simp)
  simp at c0 c1 c2 c3
  clear hb1
  go_wp2
  go_ret
  exact ⟨rfl, H1.out⟩
set_option maxHeartbeats 400000 in
theorem icmp_gt_a (a b c d : Int) (w : World) (h : (rightB a b && rightB c d) = true) (hx : c * b < a * d) (hk : a ≠ c) :
    Calls Try.prog 27 #[.agg #[.int .i64 a, .int .i64 b], .agg #[.int .i64 c, .int .i64 d]] w fun e w' => e = .returned (.int .i64 (cmpF a b c d)) ∧ Below w.heap.size w w' := by
  rw [show cmpF a b c d = 1 by simp only [cmpF, h, if_true]; rw [if_neg (show ¬ a * d < c * b by omega), if_pos hx]]
  obtain ⟨h1, h2⟩ : rightB a b = true ∧ rightB c d = true := by simpa using h
  obtain ⟨p1, p2, p3, p4, p5⟩ := right_t h1
  obtain ⟨q1, q2, q3, q4, q5⟩ := right_t h2
  obtain ⟨m1, m2⟩ := mul_bd a d p3 p4 (by omega) q2
  obtain ⟨m3, m4⟩ := mul_bd c b q3 q4 (by omega) p2
  have hy : ¬ a * d < c * b := by omega
  have e1 : (a == c) = false := by rw [beq_eq_false_iff_ne]; exact hk
  have st := st25
  have HH : Hid ((rightB a b && rightB c d) = true) := h
  clear h h1 h2 p5 q5 hk
  go_enter Try.func27, Try.ntmps27
  go_wp2_with fail
  refine (anyf_t a b c d HH.out _).mono ?_
  rintro e w1 ⟨rfl, hb1⟩
  have H1 : Hid (Below w.heap.size w w1) := by refine box_step ?_ hb1 (by simp); go_grown
  have c0 := hb1.cell (p := ⟨w.heap.size, 0, none⟩) (by simp <;> omega)
  have c1 := hb1.cell (p := ⟨w.heap.size, 1, none⟩) (by simp <;> omega)
  have c2 := hb1.cell (p := ⟨w.heap.size + 1, 0, none⟩) (by simp)
  have c3 := hb1.cell (p := ⟨w.heap.size + 1, 1, none⟩) (by simp)
  simp at c0 c1 c2 c3
  clear hb1
  go_wp2
  go_ret
  exact ⟨rfl, H1.out⟩
set_option maxHeartbeats 400000 in
theorem icmp_gt_b (a b c d : Int) (w : World) (h : (rightB a b && rightB c d) = true) (hx : c * b < a * d) (hk : a = c ∧ b ≠ d) :
    Calls Try.prog 27 #[.agg #[.int .i64 a, .int .i64 b], .agg #[.int .i64 c, .int .i64 d]] w fun e w' => e = .returned (.int .i64 (cmpF a b c d)) ∧ Below w.heap.size w w' := by
  rw [show cmpF a b c d = 1 by simp only [cmpF, h, if_true]; rw [if_neg (show ¬ a * d < c * b by omega), if_pos hx]]
  obtain ⟨h1, h2⟩ : rightB a b = true ∧ rightB c d = true := by simpa using h
  obtain ⟨p1, p2, p3, p4, p5⟩ := right_t h1
  obtain ⟨q1, q2, q3, q4, q5⟩ := right_t h2
  obtain ⟨m1, m2⟩ := mul_bd a d p3 p4 (by omega) q2
  obtain ⟨m3, m4⟩ := mul_bd c b q3 q4 (by omega) p2
  have hy : ¬ a * d < c * b := by omega
  have e1 : (a == c) = true := by rw [beq_iff_eq]; exact hk.1
  have e2 : (b == d) = false := by rw [beq_eq_false_iff_ne]; exact hk.2
  have st := st25
  have HH : Hid ((rightB a b && rightB c d) = true) := h
  clear h h1 h2 p5 q5 hk
  go_enter Try.func27, Try.ntmps27
  go_wp2_with fail
  refine (anyf_t a b c d HH.out _).mono ?_
  rintro e w1 ⟨rfl, hb1⟩
  have H1 : Hid (Below w.heap.size w w1) := by refine box_step ?_ hb1 (by simp); go_grown
  have c0 := hb1.cell (p := ⟨w.heap.size, 0, none⟩) (by simp <;> omega)
  have c1 := hb1.cell (p := ⟨w.heap.size, 1, none⟩) (by simp <;> omega)
  have c2 := hb1.cell (p := ⟨w.heap.size + 1, 0, none⟩) (by simp)
  have c3 := hb1.cell (p := ⟨w.heap.size + 1, 1, none⟩) (by simp)
  simp at c0 c1 c2 c3
  clear hb1
  go_wp2
  go_ret
  exact ⟨rfl, H1.out⟩
set_option maxHeartbeats 400000 in
theorem icmp_eq (a b : Int) (w : World) (h : rightB a b = true) :
    Calls Try.prog 27 #[.agg #[.int .i64 a, .int .i64 b], .agg #[.int .i64 a, .int .i64 b]] w fun e w' => e = .returned (.int .i64 (cmpF a b a b)) ∧ Below w.heap.size w w' := by
  rw [show cmpF a b a b = 0 by simp only [cmpF, h, Bool.and_self, if_true]; rw [if_neg (by omega), if_neg (by omega)]]
  have st := st25
  have HH : Hid ((rightB a b && rightB a b) = true) := by rw [h]; rfl
  clear h
  go_enter Try.func27, Try.ntmps27
  go_wp2_with fail
  refine (anyf_t a b a b HH.out _).mono ?_
  rintro e w1 ⟨rfl, hb1⟩
  have H1 : Hid (Below w.heap.size w w1) := by refine box_step ?_ hb1 (by simp); go_grown
  have c0 := hb1.cell (p := ⟨w.heap.size, 0, none⟩) (by simp <;> omega)
  have c1 := hb1.cell (p := ⟨w.heap.size, 1, none⟩) (by simp <;> omega)
  have c2 := hb1.cell (p := ⟨w.heap.size + 1, 0, none⟩) (by simp)
  have c3 := hb1.cell (p := ⟨w.heap.size + 1, 1, none⟩) (by simp)
  simp at c0 c1 c2 c3
  clear hb1
  go_wp2
  go_ret
  exact ⟨rfl, H1.out⟩
theorem scmp (a b c d : Int) (w : World) :
    Calls Try.prog 26 #[.agg #[.int .i64 a, .int .i64 b], .agg #[.int .i64 c, .int .i64 d]] w fun e w' => e = .returned (.int .i64 (cmpF a b c d)) ∧ Below w.heap.size w w' := by
  cases h : (rightB a b && rightB c d)
  · exact scmp_no a b c d w h
  rcases Int.lt_trichotomy (a * d) (c * b) with hx | hx | hx
  · exact scmp_lt a b c d w h hx
  · exact scmp_eq a b c d w h hx
  · exact scmp_gt a b c d w h hx
theorem icmp (a b c d : Int) (w : World) :
    Calls Try.prog 27 #[.agg #[.int .i64 a, .int .i64 b], .agg #[.int .i64 c, .int .i64 d]] w fun e w' => e = .returned (.int .i64 (cmpF a b c d)) ∧ Below w.heap.size w w' := by
  cases h : (rightB a b && rightB c d)
  · exact icmp_no a b c d w h
  obtain ⟨h1, h2⟩ : rightB a b = true ∧ rightB c d = true := by simpa using h
  rcases Int.lt_trichotomy (a * d) (c * b) with hx | hx | hx
  · by_cases hk : a = c
    · by_cases hk2 : b = d
      · subst hk hk2; exact icmp_eq a b w h1
      · exact icmp_lt_b a b c d w h hx ⟨hk, hk2⟩
    · exact icmp_lt_a a b c d w h hx hk
  · obtain ⟨p1, _, _, _, p5⟩ := right_t h1
    obtain ⟨q1, _, _, _, q5⟩ := right_t h2
    obtain ⟨rfl, rfl⟩ := Fm.cross a b c d p1 q1 p5 q5 hx
    exact icmp_eq a b w h1
  · by_cases hk : a = c
    · by_cases hk2 : b = d
      · subst hk hk2; exact icmp_eq a b w h1
      · exact icmp_gt_b a b c d w h hx ⟨hk, hk2⟩
    · exact icmp_gt_a a b c d w h hx hk
end Go.Proofs.Ytkmbcbjholpfbaa
