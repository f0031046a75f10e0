/- MakeFrac, as the specification and as the program reckon it: one answer. And the laws' comparison of two answers that are one. -/
import Derived.Test.YtkmbcbjholpfbaaLow
import Derived.Handy
namespace Go.Proofs.Ytkmbcbjholpfbaa
open Go.RowKit
def outR (n d : Int) : Bool := decide (n < -1000000000000000000 ∨ 1000000000000000000 < n ∨ d < -1000000000000000000 ∨ 1000000000000000000 < d)
def mkC (n d : Int) : Int := if outR n d = true then 3 else if d = 0 then 6 else resC n d
def mkN (n d : Int) : Int := if outR n d = true then 0 else if d = 0 then 0 else resN n d
def mkD (n d : Int) : Int := if outR n d = true then 0 else if d = 0 then 0 else resD n d
theorem mk_out {n d : Int} (h : n < -1000000000000000000 ∨ 1000000000000000000 < n ∨ d < -1000000000000000000 ∨ 1000000000000000000 < d) : mkC n d = 3 ∧ mkN n d = 0 ∧ mkD n d = 0 := by
  have e : outR n d = true := by unfold outR; exact decide_eq_true h
  simp [mkC, mkN, mkD, e]
theorem mk_zero {n d : Int} (h : ¬ (n < -1000000000000000000 ∨ 1000000000000000000 < n)) (hd : d = 0) : mkC n d = 6 ∧ mkN n d = 0 ∧ mkD n d = 0 := by
  subst hd
  have e : outR n 0 = false := by unfold outR; exact decide_eq_false (by omega)
  simp [mkC, mkN, mkD, e]
theorem mk_in {n d : Int} (h : ¬ (n < -1000000000000000000 ∨ 1000000000000000000 < n ∨ d < -1000000000000000000 ∨ 1000000000000000000 < d)) (hd : d ≠ 0) : mkC n d = resC n d ∧ mkN n d = resN n d ∧ mkD n d = resD n d := by
  have e : outR n d = false := by unfold outR; exact decide_eq_false h
  simp [mkC, mkN, mkD, e, hd]
set_option maxHeartbeats 400000 in
theorem smake_1 (n d : Int) (w : World)  (h : n < -1000000000000000000) :
    Calls Try.prog 15 #[.int .i64 n, .int .i64 d] w fun e w' => e = .returned (.agg #[.int .i64 (mkC n d), .int .i64 (mkN n d), .int .i64 (mkD n d)]) ∧ Below w.heap.size w w' := by
  obtain ⟨e1, e2, e3⟩ := mk_out (n := n) (d := d) (by omega)
  rw [e1, e2, e3]
  clear e1 e2 e3
  have t1 : decide (n < -1000000000000000000) = true := by simp; omega
  go_enter Try.func15, Try.ntmps15
  go_wp2
  refine bodyPost_ret (v := .agg #[.int .i64 3, .int .i64 0, .int .i64 0]) (by simp [results, Try.results15, go_sem]) rfl ⟨rfl, ?_⟩
  go_grown
set_option maxHeartbeats 400000 in
theorem smake_2 (n d : Int) (w : World) (g1 : ¬ n < -1000000000000000000) (h : 1000000000000000000 < n) :
    Calls Try.prog 15 #[.int .i64 n, .int .i64 d] w fun e w' => e = .returned (.agg #[.int .i64 (mkC n d), .int .i64 (mkN n d), .int .i64 (mkD n d)]) ∧ Below w.heap.size w w' := by
  obtain ⟨e1, e2, e3⟩ := mk_out (n := n) (d := d) (by omega)
  rw [e1, e2, e3]
  clear e1 e2 e3
  have t1 : decide (n < -1000000000000000000) = false := by simp; omega
  have t2 : decide (1000000000000000000 < n) = true := by simp; omega
  go_enter Try.func15, Try.ntmps15
  go_wp2
  refine bodyPost_ret (v := .agg #[.int .i64 3, .int .i64 0, .int .i64 0]) (by simp [results, Try.results15, go_sem]) rfl ⟨rfl, ?_⟩
  go_grown
set_option maxHeartbeats 400000 in
theorem smake_3 (n d : Int) (w : World) (g1 : ¬ n < -1000000000000000000) (g2 : ¬ 1000000000000000000 < n) (h : d < -1000000000000000000) :
    Calls Try.prog 15 #[.int .i64 n, .int .i64 d] w fun e w' => e = .returned (.agg #[.int .i64 (mkC n d), .int .i64 (mkN n d), .int .i64 (mkD n d)]) ∧ Below w.heap.size w w' := by
  obtain ⟨e1, e2, e3⟩ := mk_out (n := n) (d := d) (by omega)
  rw [e1, e2, e3]
  clear e1 e2 e3
  have t1 : decide (n < -1000000000000000000) = false := by simp; omega
  have t2 : decide (1000000000000000000 < n) = false := by simp; omega
  have t3 : decide (d < -1000000000000000000) = true := by simp; omega
  go_enter Try.func15, Try.ntmps15
  go_wp2
  refine bodyPost_ret (v := .agg #[.int .i64 3, .int .i64 0, .int .i64 0]) (by simp [results, Try.results15, go_sem]) rfl ⟨rfl, ?_⟩
  go_grown
set_option maxHeartbeats 400000 in
theorem smake_4 (n d : Int) (w : World) (g1 : ¬ n < -1000000000000000000) (g2 : ¬ 1000000000000000000 < n) (g3 : ¬ d < -1000000000000000000) (h : 1000000000000000000 < d) :
    Calls Try.prog 15 #[.int .i64 n, .int .i64 d] w fun e w' => e = .returned (.agg #[.int .i64 (mkC n d), .int .i64 (mkN n d), .int .i64 (mkD n d)]) ∧ Below w.heap.size w w' := by
  obtain ⟨e1, e2, e3⟩ := mk_out (n := n) (d := d) (by omega)
  rw [e1, e2, e3]
  clear e1 e2 e3
  have t1 : decide (n < -1000000000000000000) = false := by simp; omega
  have t2 : decide (1000000000000000000 < n) = false := by simp; omega
  have t3 : decide (d < -1000000000000000000) = false := by simp; omega
  have t4 : decide (1000000000000000000 < d) = true := by simp; omega
  go_enter Try.func15, Try.ntmps15
  go_wp2
  refine bodyPost_ret (v := .agg #[.int .i64 3, .int .i64 0, .int .i64 0]) (by simp [results, Try.results15, go_sem]) rfl ⟨rfl, ?_⟩
  go_grown
set_option maxHeartbeats 400000 in
theorem smake_5 (n d : Int) (w : World) (g1 : ¬ n < -1000000000000000000) (g2 : ¬ 1000000000000000000 < n) (h : d = 0) :
    Calls Try.prog 15 #[.int .i64 n, .int .i64 d] w fun e w' => e = .returned (.agg #[.int .i64 (mkC n d), .int .i64 (mkN n d), .int .i64 (mkD n d)]) ∧ Below w.heap.size w w' := by
  obtain ⟨e1, e2, e3⟩ := mk_zero (n := n) (d := d) (by omega) h
  rw [e1, e2, e3]
  clear e1 e2 e3
  subst h
  have t1 : decide (n < -1000000000000000000) = false := by simp; omega
  have t2 : decide (1000000000000000000 < n) = false := by simp; omega
  go_enter Try.func15, Try.ntmps15
  go_wp2
  refine bodyPost_ret (v := .agg #[.int .i64 6, .int .i64 0, .int .i64 0]) (by simp [results, Try.results15, go_sem]) rfl ⟨rfl, ?_⟩
  go_grown
set_option maxHeartbeats 400000 in
theorem smake_6 (n d : Int) (w : World) (g1 : ¬ n < -1000000000000000000) (g2 : ¬ 1000000000000000000 < n) (g3 : ¬ d < -1000000000000000000) (g4 : ¬ 1000000000000000000 < d) (h : d ≠ 0) :
    Calls Try.prog 15 #[.int .i64 n, .int .i64 d] w fun e w' => e = .returned (.agg #[.int .i64 (mkC n d), .int .i64 (mkN n d), .int .i64 (mkD n d)]) ∧ Below w.heap.size w w' := by
  obtain ⟨e1, e2, e3⟩ := mk_in (n := n) (d := d) (by omega) h
  rw [e1, e2, e3]
  clear e1 e2 e3
  have t1 : decide (n < -1000000000000000000) = false := by simp; omega
  have t2 : decide (1000000000000000000 < n) = false := by simp; omega
  have t3 : decide (d < -1000000000000000000) = false := by simp; omega
  have t4 : decide (1000000000000000000 < d) = false := by simp; omega
  have t5 : (d == 0) = false := by rw [beq_eq_false_iff_ne]; exact h
  go_enter Try.func15, Try.ntmps15
  go_wp2_with fail
  refine (slow n d _ (by omega) (by omega) (by omega) (by omega) h).mono ?_
  rintro e w1 ⟨rfl, hb1⟩
  have H1 : Hid (Below w.heap.size w w1) := box_out (hb1.mono (by simp))
  obtain ⟨c0, c1, c2, f0, f1, f2, hz⟩ := box3 (hb1.mono (by simp))
  clear hb1
  go_wp2
  refine bodyPost_ret (v := .agg #[.int .i64 (resC n d), .int .i64 (resN n d), .int .i64 (resD n d)]) (by simp [results, Try.results15, go_sem, c0, c1, c2]) rfl ⟨rfl, ?_⟩
  have H2 := H1.out
  go_grown
theorem smake (n d : Int) (w : World) :
    Calls Try.prog 15 #[.int .i64 n, .int .i64 d] w fun e w' => e = .returned (.agg #[.int .i64 (mkC n d), .int .i64 (mkN n d), .int .i64 (mkD n d)]) ∧ Below w.heap.size w w' := by
  by_cases g1 : n < -1000000000000000000
  · exact smake_1 n d w g1
  by_cases g2 : 1000000000000000000 < n
  · exact smake_2 n d w g1 g2
  by_cases g3 : d < -1000000000000000000
  · exact smake_3 n d w g1 g2 g3
  by_cases g4 : 1000000000000000000 < d
  · exact smake_4 n d w g1 g2 g3 g4
  by_cases h : d = 0
  · exact smake_5 n d w g1 g2 h
  · exact smake_6 n d w g1 g2 g3 g4 h
set_option maxHeartbeats 400000 in
theorem imake_1 (n d : Int) (w : World)  (h : n < -1000000000000000000) :
    Calls Try.prog 16 #[.int .i64 n, .int .i64 d] w fun e w' => e = .returned (.agg #[.int .i64 (mkC n d), .int .i64 (mkN n d), .int .i64 (mkD n d)]) ∧ Below w.heap.size w w' := by
  obtain ⟨e1, e2, e3⟩ := mk_out (n := n) (d := d) (by omega)
  rw [e1, e2, e3]
  clear e1 e2 e3
  have t1 : decide (n < -1000000000000000000) = true := by simp; omega
  go_enter Try.func16, Try.ntmps16
  go_wp2
  refine bodyPost_ret (v := .agg #[.int .i64 3, .int .i64 0, .int .i64 0]) (by simp [results, Try.results16, go_sem]) rfl ⟨rfl, ?_⟩
  go_grown
set_option maxHeartbeats 400000 in
theorem imake_2 (n d : Int) (w : World) (g1 : ¬ n < -1000000000000000000) (h : 1000000000000000000 < n) :
    Calls Try.prog 16 #[.int .i64 n, .int .i64 d] w fun e w' => e = .returned (.agg #[.int .i64 (mkC n d), .int .i64 (mkN n d), .int .i64 (mkD n d)]) ∧ Below w.heap.size w w' := by
  obtain ⟨e1, e2, e3⟩ := mk_out (n := n) (d := d) (by omega)
  rw [e1, e2, e3]
  clear e1 e2 e3
  have t1 : decide (n < -1000000000000000000) = false := by simp; omega
  have t2 : decide (1000000000000000000 < n) = true := by simp; omega
  go_enter Try.func16, Try.ntmps16
  go_wp2
  refine bodyPost_ret (v := .agg #[.int .i64 3, .int .i64 0, .int .i64 0]) (by simp [results, Try.results16, go_sem]) rfl ⟨rfl, ?_⟩
  go_grown
set_option maxHeartbeats 400000 in
theorem imake_3 (n d : Int) (w : World) (g1 : ¬ n < -1000000000000000000) (g2 : ¬ 1000000000000000000 < n) (h : d < -1000000000000000000) :
    Calls Try.prog 16 #[.int .i64 n, .int .i64 d] w fun e w' => e = .returned (.agg #[.int .i64 (mkC n d), .int .i64 (mkN n d), .int .i64 (mkD n d)]) ∧ Below w.heap.size w w' := by
  obtain ⟨e1, e2, e3⟩ := mk_out (n := n) (d := d) (by omega)
  rw [e1, e2, e3]
  clear e1 e2 e3
  have t1 : decide (n < -1000000000000000000) = false := by simp; omega
  have t2 : decide (1000000000000000000 < n) = false := by simp; omega
  have t3 : decide (d < -1000000000000000000) = true := by simp; omega
  go_enter Try.func16, Try.ntmps16
  go_wp2
  refine bodyPost_ret (v := .agg #[.int .i64 3, .int .i64 0, .int .i64 0]) (by simp [results, Try.results16, go_sem]) rfl ⟨rfl, ?_⟩
  go_grown
set_option maxHeartbeats 400000 in
theorem imake_4 (n d : Int) (w : World) (g1 : ¬ n < -1000000000000000000) (g2 : ¬ 1000000000000000000 < n) (g3 : ¬ d < -1000000000000000000) (h : 1000000000000000000 < d) :
    Calls Try.prog 16 #[.int .i64 n, .int .i64 d] w fun e w' => e = .returned (.agg #[.int .i64 (mkC n d), .int .i64 (mkN n d), .int .i64 (mkD n d)]) ∧ Below w.heap.size w w' := by
  obtain ⟨e1, e2, e3⟩ := mk_out (n := n) (d := d) (by omega)
  rw [e1, e2, e3]
  clear e1 e2 e3
  have t1 : decide (n < -1000000000000000000) = false := by simp; omega
  have t2 : decide (1000000000000000000 < n) = false := by simp; omega
  have t3 : decide (d < -1000000000000000000) = false := by simp; omega
  have t4 : decide (1000000000000000000 < d) = true := by simp; omega
  go_enter Try.func16, Try.ntmps16
  go_wp2
  refine bodyPost_ret (v := .agg #[.int .i64 3, .int .i64 0, .int .i64 0]) (by simp [results, Try.results16, go_sem]) rfl ⟨rfl, ?_⟩
  go_grown
set_option maxHeartbeats 400000 in
theorem imake_5 (n d : Int) (w : World) (g1 : ¬ n < -1000000000000000000) (g2 : ¬ 1000000000000000000 < n) (h : d = 0) :
    Calls Try.prog 16 #[.int .i64 n, .int .i64 d] w fun e w' => e = .returned (.agg #[.int .i64 (mkC n d), .int .i64 (mkN n d), .int .i64 (mkD n d)]) ∧ Below w.heap.size w w' := by
  obtain ⟨e1, e2, e3⟩ := mk_zero (n := n) (d := d) (by omega) h
  rw [e1, e2, e3]
  clear e1 e2 e3
  subst h
  have t1 : decide (n < -1000000000000000000) = false := by simp; omega
  have t2 : decide (1000000000000000000 < n) = false := by simp; omega
  go_enter Try.func16, Try.ntmps16
  go_wp2
  refine bodyPost_ret (v := .agg #[.int .i64 6, .int .i64 0, .int .i64 0]) (by simp [results, Try.results16, go_sem]) rfl ⟨rfl, ?_⟩
  go_grown
set_option maxHeartbeats 400000 in
theorem imake_6 (n d : Int) (w : World) (g1 : ¬ n < -1000000000000000000) (g2 : ¬ 1000000000000000000 < n) (g3 : ¬ d < -1000000000000000000) (g4 : ¬ 1000000000000000000 < d) (h : d ≠ 0) :
    Calls Try.prog 16 #[.int .i64 n, .int .i64 d] w fun e w' => e = .returned (.agg #[.int .i64 (mkC n d), .int .i64 (mkN n d), .int .i64 (mkD n d)]) ∧ Below w.heap.size w w' := by
  obtain ⟨e1, e2, e3⟩ := mk_in (n := n) (d := d) (by omega) h
  rw [e1, e2, e3]
  clear e1 e2 e3
  have t1 : decide (n < -1000000000000000000) = false := by simp; omega
  have t2 : decide (1000000000000000000 < n) = false := by simp; omega
  have t3 : decide (d < -1000000000000000000) = false := by simp; omega
  have t4 : decide (1000000000000000000 < d) = false := by simp; omega
  have t5 : (d == 0) = false := by rw [beq_eq_false_iff_ne]; exact h
  go_enter Try.func16, Try.ntmps16
  go_wp2_with fail
  refine (quot n d _ (by omega) (by omega) (by omega) (by omega) h).mono ?_
  rintro e w1 ⟨rfl, hb1⟩
  have H1 : Hid (Below w.heap.size w w1) := box_out (hb1.mono (by simp))
  obtain ⟨c0, c1, c2, f0, f1, f2, hz⟩ := box3 (hb1.mono (by simp))
  clear hb1
  go_wp2
  refine bodyPost_ret (v := .agg #[.int .i64 (resC n d), .int .i64 (resN n d), .int .i64 (resD n d)]) (by simp [results, Try.results16, go_sem, c0, c1, c2]) rfl ⟨rfl, ?_⟩
  have H2 := H1.out
  go_grown
theorem imake (n d : Int) (w : World) :
    Calls Try.prog 16 #[.int .i64 n, .int .i64 d] w fun e w' => e = .returned (.agg #[.int .i64 (mkC n d), .int .i64 (mkN n d), .int .i64 (mkD n d)]) ∧ Below w.heap.size w w' := by
  by_cases g1 : n < -1000000000000000000
  · exact imake_1 n d w g1
  by_cases g2 : 1000000000000000000 < n
  · exact imake_2 n d w g1 g2
  by_cases g3 : d < -1000000000000000000
  · exact imake_3 n d w g1 g2 g3
  by_cases g4 : 1000000000000000000 < d
  · exact imake_4 n d w g1 g2 g3 g4
  by_cases h : d = 0
  · exact imake_5 n d w g1 g2 h
  · exact imake_6 n d w g1 g2 g3 g4 h
set_option maxHeartbeats 400000 in
theorem eqFrac_same (n d : Int) (w : World) :
    Calls Try.prog 39 #[.agg #[.int .i64 n, .int .i64 d], .agg #[.int .i64 n, .int .i64 d]] w fun e w' => e = .returned (.bool true) ∧ Below w.heap.size w w' := by
  go_enter Try.func39, Try.ntmps39
  go_wp2
  go_ret
  refine ⟨rfl, ?_⟩
  go_grown
set_option maxHeartbeats 400000 in
theorem eqRes_same (c n d : Int) (w : World) :
    Calls Try.prog 17 #[.agg #[.int .i64 c, .int .i64 n, .int .i64 d], .agg #[.int .i64 c, .int .i64 n, .int .i64 d]] w fun e w' => e = .returned (.bool true) ∧ Below w.heap.size w w' := by
  go_enter Try.func17, Try.ntmps17
  go_wp2_with fail
  refine (eqFrac_same n d _).mono ?_
  rintro e w1 ⟨rfl, hb1⟩
  have H1 : Below w.heap.size w w1 := by refine box_step ?_ hb1 (by simp); go_grown
  clear hb1
  go_wp2
  go_ret
  exact ⟨rfl, H1⟩
end Go.Proofs.Ytkmbcbjholpfbaa
