/- A number told in lowest terms, or as out of its bounds: the specification's and the program's way. -/
import Derived.Test.YtkkajcdjkfbcgaaIfaults
import Derived.Handy
namespace Go.Proofs.Ytkkajcdjkfbcgaa
open Go.RowKit
/-- Whether lowest terms are right. -/
def lowB (n d : Int) : Bool := inB (Fm.rN n d) (Fm.rD n d)
def resC (n d : Int) : Int := if lowB n d = true then 0 else 3
def resN (n d : Int) : Int := if lowB n d = true then Fm.rN n d else 0
def resD (n d : Int) : Int := if lowB n d = true then Fm.rD n d else 0
theorem low_fault (n d : Int) (h : d ≠ 0) : fault (Fm.rN n d) (Fm.rD n d) = if lowB n d = true then 0 else 1 := by
  unfold fault rightB lowB
  rw [Fm.r_cop n d h]
  simp

set_option maxHeartbeats 400000 in
theorem quot_no (n d : Int) (w : World) (h1 : -3000000000000000000 ≤ n) (h2 : n ≤ 3000000000000000000) (h3 : -3000000000000000000 ≤ d) (h4 : d ≤ 3000000000000000000) (h : d ≠ 0) (hl : lowB n d = false) :
    Calls Try.prog 127 #[.int .i64 n, .int .i64 d] w fun e w' => e = .returned (.agg #[.int .i64 (resC n d), .int .i64 (resN n d), .int .i64 (resD n d)]) ∧ Below w.heap.size w w' := by
  rw [show resC n d = 3 by simp [resC, hl], show resN n d = 0 by simp [resN, hl], show resD n d = 0 by simp [resD, hl]]
  unfold lowB at hl
  go_enter Try.func127, Try.ntmps127
  go_wp2_with fail
  refine (lowest_any _ _ _ h1 h2 h3 h4 h).mono ?_
  rintro e w1 ⟨rfl, hb1⟩
  have H1 : Hid (Below w.heap.size w w1) := box_out (hb1.mono (by simp))
  obtain ⟨c0, c1, c2, f0, f1, f2, hz⟩ := box3 (hb1.mono (by simp))
  clear hb1
  go_wp2_with fail
  refine (within_any _ _ _).mono ?_
  rintro e w2 ⟨rfl, rfl⟩
  go_wp2
  refine bodyPost_ret (v := .agg #[.int .i64 3, .int .i64 0, .int .i64 0]) (by simp [results, Try.results127, go_sem, hz, Nat.lt_succ_of_lt hz, c0, c1, c2]) rfl ⟨rfl, ?_⟩
  have H2 := H1.out
  go_grown
set_option maxHeartbeats 400000 in
theorem quot_yes (n d : Int) (w : World) (h1 : -3000000000000000000 ≤ n) (h2 : n ≤ 3000000000000000000) (h3 : -3000000000000000000 ≤ d) (h4 : d ≤ 3000000000000000000) (h : d ≠ 0) (hl : lowB n d = true) :
    Calls Try.prog 127 #[.int .i64 n, .int .i64 d] w fun e w' => e = .returned (.agg #[.int .i64 (resC n d), .int .i64 (resN n d), .int .i64 (resD n d)]) ∧ Below w.heap.size w w' := by
  rw [show resC n d = 0 by simp [resC, hl], show resN n d = Fm.rN n d by simp [resN, hl], show resD n d = Fm.rD n d by simp [resD, hl]]
  unfold lowB at hl
  go_enter Try.func127, Try.ntmps127
  go_wp2_with fail
  refine (lowest_any _ _ _ h1 h2 h3 h4 h).mono ?_
  rintro e w1 ⟨rfl, hb1⟩
  have H1 : Hid (Below w.heap.size w w1) := box_out (hb1.mono (by simp))
  obtain ⟨c0, c1, c2, f0, f1, f2, hz⟩ := box3 (hb1.mono (by simp))
  clear hb1
  go_wp2_with fail
  refine (within_any _ _ _).mono ?_
  rintro e w2 ⟨rfl, rfl⟩
  go_wp2
  refine bodyPost_ret (v := .agg #[.int .i64 0, .int .i64 (Fm.rN n d), .int .i64 (Fm.rD n d)]) (by simp [results, Try.results127, go_sem, hz, Nat.lt_succ_of_lt hz, c0, c1, c2]) rfl ⟨rfl, ?_⟩
  have H2 := H1.out
  go_grown
/-- The program's quotientOf. -/
theorem quot (n d : Int) (w : World) (h1 : -3000000000000000000 ≤ n) (h2 : n ≤ 3000000000000000000) (h3 : -3000000000000000000 ≤ d) (h4 : d ≤ 3000000000000000000) (h : d ≠ 0) :
    Calls Try.prog 127 #[.int .i64 n, .int .i64 d] w fun e w' => e = .returned (.agg #[.int .i64 (resC n d), .int .i64 (resN n d), .int .i64 (resD n d)]) ∧ Below w.heap.size w w' := by
  cases hl : lowB n d
  · exact quot_no n d w h1 h2 h3 h4 h hl
  · exact quot_yes n d w h1 h2 h3 h4 h hl
set_option maxHeartbeats 400000 in
theorem slow_pos_yes (n d : Int) (w : World) (h1 : -3000000000000000000 ≤ n) (h2 : n ≤ 3000000000000000000) (h3 : 1 ≤ d) (h4 : d ≤ 3000000000000000000) (hl : lowB n d = true) :
    Calls Try.prog 80 #[.int .i64 n, .int .i64 d] w fun e w' => e = .returned (.agg #[.int .i64 (resC n d), .int .i64 (resN n d), .int .i64 (resD n d)]) ∧ Below w.heap.size w w' := by
  rw [show resC n d = 0 by simp [resC, hl], show resN n d = n.tdiv (Int.gcd n d) by simp [resN, hl, Fm.rN_pos (show 0 ≤ d by omega)], show resD n d = d / (Int.gcd n d) by simp [resD, hl, Fm.rD_pos (show 0 ≤ d by omega)]]
  have hf := low_fault n d (by omega)
  rw [hl, Fm.rN_pos (show 0 ≤ d by omega), Fm.rD_pos (show 0 ≤ d by omega)] at hf
  simp only [if_true] at hf
  clear hl
  have hg := Fm.gcd_pos n d (by omega)
  have hl := Fm.gcd_le n d (by omega)
  have ha := abs_gcd n d
  have hz : ((Int.gcd n d : Int) == 0) = false := by rw [beq_eq_false_iff_ne]; omega
  go_enter Try.func80, Try.ntmps80
  go_wp2_with (first | (go_at_call 119; refine (abs_any _ _ (by omega) (by omega)).mono ?_; rintro e w' ⟨rfl, rfl⟩) | (go_at_call 118; refine (gcd_any _ _ _ (by omega) (by omega) (by omega) (by omega)).mono ?_; rintro e w' ⟨rfl, rfl⟩))
  go_region
  go_wp2_with fail
  refine (sfault _ _ _).mono ?_
  rintro e w1 ⟨rfl, hb1⟩
  have hX : Below (w.heap.size + 1) (w.alloc (.cells #[.int .i64 0, .int .i64 0, .int .i64 0] 49)) w1 := by refine box_step ?_ hb1 (by simp); go_grown
  have H1 : Hid (Below w.heap.size w w1) := box_out hX
  obtain ⟨c0, c1, c2, f0, f1, f2, hz⟩ := box3 hX
  have d0 := hb1.cell (p := ⟨w.heap.size + 1, 0, none⟩) (by simp)
  have d1 := hb1.cell (p := ⟨w.heap.size + 1, 1, none⟩) (by simp)
  simp at d0 d1
  clear hb1 hX
  go_wp2
  refine bodyPost_ret (v := .agg #[.int .i64 0, .int .i64 (n.tdiv (Int.gcd n d)), .int .i64 (d / (Int.gcd n d))]) (by simp [results, Try.results80, go_sem, c0, c1, c2]) rfl ⟨rfl, ?_⟩
  have H2 := H1.out
  go_grown
set_option maxHeartbeats 400000 in
theorem slow_pos_no (n d : Int) (w : World) (h1 : -3000000000000000000 ≤ n) (h2 : n ≤ 3000000000000000000) (h3 : 1 ≤ d) (h4 : d ≤ 3000000000000000000) (hl : lowB n d = false) :
    Calls Try.prog 80 #[.int .i64 n, .int .i64 d] w fun e w' => e = .returned (.agg #[.int .i64 (resC n d), .int .i64 (resN n d), .int .i64 (resD n d)]) ∧ Below w.heap.size w w' := by
  rw [show resC n d = 3 by simp [resC, hl], show resN n d = 0 by simp [resN, hl], show resD n d = 0 by simp [resD, hl]]
  have hf := low_fault n d (by omega)
  rw [hl, Fm.rN_pos (show 0 ≤ d by omega), Fm.rD_pos (show 0 ≤ d by omega)] at hf
  simp only [Bool.false_eq_true, if_false] at hf
  clear hl
  have hg := Fm.gcd_pos n d (by omega)
  have hl := Fm.gcd_le n d (by omega)
  have ha := abs_gcd n d
  have hz : ((Int.gcd n d : Int) == 0) = false := by rw [beq_eq_false_iff_ne]; omega
  go_enter Try.func80, Try.ntmps80
  go_wp2_with (first | (go_at_call 119; refine (abs_any _ _ (by omega) (by omega)).mono ?_; rintro e w' ⟨rfl, rfl⟩) | (go_at_call 118; refine (gcd_any _ _ _ (by omega) (by omega) (by omega) (by omega)).mono ?_; rintro e w' ⟨rfl, rfl⟩))
  go_region
  go_wp2_with fail
  refine (sfault _ _ _).mono ?_
  rintro e w1 ⟨rfl, hb1⟩
  have hX : Below (w.heap.size + 1) (w.alloc (.cells #[.int .i64 0, .int .i64 0, .int .i64 0] 49)) w1 := by refine box_step ?_ hb1 (by simp); go_grown
  have H1 : Hid (Below w.heap.size w w1) := box_out hX
  obtain ⟨c0, c1, c2, f0, f1, f2, hz⟩ := box3 hX
  have d0 := hb1.cell (p := ⟨w.heap.size + 1, 0, none⟩) (by simp)
  have d1 := hb1.cell (p := ⟨w.heap.size + 1, 1, none⟩) (by simp)
  simp at d0 d1
  clear hb1 hX
  go_wp2
  refine bodyPost_ret (v := .agg #[.int .i64 3, .int .i64 (0), .int .i64 (0)]) (by simp [results, Try.results80, go_sem, c0, c1, c2]) rfl ⟨rfl, ?_⟩
  have H2 := H1.out
  go_grown
set_option maxHeartbeats 400000 in
theorem slow_neg_yes (n d : Int) (w : World) (h1 : -3000000000000000000 ≤ n) (h2 : n ≤ 3000000000000000000) (h3 : d < 0) (h4 : -3000000000000000000 ≤ d) (hl : lowB n d = true) :
    Calls Try.prog 80 #[.int .i64 n, .int .i64 d] w fun e w' => e = .returned (.agg #[.int .i64 (resC n d), .int .i64 (resN n d), .int .i64 (resD n d)]) ∧ Below w.heap.size w w' := by
  rw [show resC n d = 0 by simp [resC, hl], show resN n d = -(n.tdiv (Int.gcd n d)) by simp [resN, hl, Fm.rN_neg h3], show resD n d = -(d.tdiv (Int.gcd n d)) by simp [resD, hl, Fm.rD_neg h3]]
  have hf := low_fault n d (by omega)
  rw [hl, Fm.rN_neg h3, Fm.rD_neg h3] at hf
  simp only [if_true] at hf
  clear hl
  have hg := Fm.gcd_pos n d (by omega)
  have hl := Fm.gcd_le n d (by omega)
  have ha := abs_gcd n d
  have hz : ((Int.gcd n d : Int) == 0) = false := by rw [beq_eq_false_iff_ne]; omega
  have hn1 := Fm.tdiv_bd n (Int.gcd n d)
  have hn2 := Fm.tdiv_bd d (Int.gcd n d)
  have hb1 : -3000000000000000000 ≤ n.tdiv (Int.gcd n d) := by omega
  have hb2 : n.tdiv (Int.gcd n d) ≤ 3000000000000000000 := by omega
  have hb3 : -3000000000000000000 ≤ d.tdiv (Int.gcd n d) := by omega
  have hb4 : d.tdiv (Int.gcd n d) ≤ 3000000000000000000 := by omega
  clear hn1 hn2
  go_enter Try.func80, Try.ntmps80
  go_wp2_with (first | (go_at_call 119; refine (abs_any _ _ (by omega) (by omega)).mono ?_; rintro e w' ⟨rfl, rfl⟩) | (go_at_call 118; refine (gcd_any _ _ _ (by omega) (by omega) (by omega) (by omega)).mono ?_; rintro e w' ⟨rfl, rfl⟩))
  go_region
  go_wp2_with fail
  refine (sfault _ _ _).mono ?_
  rintro e w1 ⟨rfl, hb1⟩
  have hX : Below (w.heap.size + 1) (w.alloc (.cells #[.int .i64 0, .int .i64 0, .int .i64 0] 49)) w1 := by refine box_step ?_ hb1 (by simp); go_grown
  have H1 : Hid (Below w.heap.size w w1) := box_out hX
  obtain ⟨c0, c1, c2, f0, f1, f2, hz⟩ := box3 hX
  have d0 := hb1.cell (p := ⟨w.heap.size + 1, 0, none⟩) (by simp)
  have d1 := hb1.cell (p := ⟨w.heap.size + 1, 1, none⟩) (by simp)
  simp at d0 d1
  clear hb1 hX
  go_wp2
  refine bodyPost_ret (v := .agg #[.int .i64 0, .int .i64 (-(n.tdiv (Int.gcd n d))), .int .i64 (-(d.tdiv (Int.gcd n d)))]) (by simp [results, Try.results80, go_sem, c0, c1, c2]) rfl ⟨rfl, ?_⟩
  have H2 := H1.out
  go_grown
set_option maxHeartbeats 400000 in
theorem slow_neg_no (n d : Int) (w : World) (h1 : -3000000000000000000 ≤ n) (h2 : n ≤ 3000000000000000000) (h3 : d < 0) (h4 : -3000000000000000000 ≤ d) (hl : lowB n d = false) :
    Calls Try.prog 80 #[.int .i64 n, .int .i64 d] w fun e w' => e = .returned (.agg #[.int .i64 (resC n d), .int .i64 (resN n d), .int .i64 (resD n d)]) ∧ Below w.heap.size w w' := by
  rw [show resC n d = 3 by simp [resC, hl], show resN n d = 0 by simp [resN, hl], show resD n d = 0 by simp [resD, hl]]
  have hf := low_fault n d (by omega)
  rw [hl, Fm.rN_neg h3, Fm.rD_neg h3] at hf
  simp only [Bool.false_eq_true, if_false] at hf
  clear hl
  have hg := Fm.gcd_pos n d (by omega)
  have hl := Fm.gcd_le n d (by omega)
  have ha := abs_gcd n d
  have hz : ((Int.gcd n d : Int) == 0) = false := by rw [beq_eq_false_iff_ne]; omega
  have hn1 := Fm.tdiv_bd n (Int.gcd n d)
  have hn2 := Fm.tdiv_bd d (Int.gcd n d)
  have hb1 : -3000000000000000000 ≤ n.tdiv (Int.gcd n d) := by omega
  have hb2 : n.tdiv (Int.gcd n d) ≤ 3000000000000000000 := by omega
  have hb3 : -3000000000000000000 ≤ d.tdiv (Int.gcd n d) := by omega
  have hb4 : d.tdiv (Int.gcd n d) ≤ 3000000000000000000 := by omega
  clear hn1 hn2
  go_enter Try.func80, Try.ntmps80
  go_wp2_with (first | (go_at_call 119; refine (abs_any _ _ (by omega) (by omega)).mono ?_; rintro e w' ⟨rfl, rfl⟩) | (go_at_call 118; refine (gcd_any _ _ _ (by omega) (by omega) (by omega) (by omega)).mono ?_; rintro e w' ⟨rfl, rfl⟩))
  go_region
  go_wp2_with fail
  refine (sfault _ _ _).mono ?_
  rintro e w1 ⟨rfl, hb1⟩
  have hX : Below (w.heap.size + 1) (w.alloc (.cells #[.int .i64 0, .int .i64 0, .int .i64 0] 49)) w1 := by refine box_step ?_ hb1 (by simp); go_grown
  have H1 : Hid (Below w.heap.size w w1) := box_out hX
  obtain ⟨c0, c1, c2, f0, f1, f2, hz⟩ := box3 hX
  have d0 := hb1.cell (p := ⟨w.heap.size + 1, 0, none⟩) (by simp)
  have d1 := hb1.cell (p := ⟨w.heap.size + 1, 1, none⟩) (by simp)
  simp at d0 d1
  clear hb1 hX
  go_wp2
  refine bodyPost_ret (v := .agg #[.int .i64 3, .int .i64 (0), .int .i64 (0)]) (by simp [results, Try.results80, go_sem, c0, c1, c2]) rfl ⟨rfl, ?_⟩
  have H2 := H1.out
  go_grown
/-- The specification's l1Low. -/
theorem slow (n d : Int) (w : World) (h1 : -3000000000000000000 ≤ n) (h2 : n ≤ 3000000000000000000) (h3 : -3000000000000000000 ≤ d) (h4 : d ≤ 3000000000000000000) (h : d ≠ 0) :
    Calls Try.prog 80 #[.int .i64 n, .int .i64 d] w fun e w' => e = .returned (.agg #[.int .i64 (resC n d), .int .i64 (resN n d), .int .i64 (resD n d)]) ∧ Below w.heap.size w w' := by
  by_cases hd : d < 0 <;> cases hl : lowB n d
  · exact slow_neg_no n d w h1 h2 hd h3 hl
  · exact slow_neg_yes n d w h1 h2 hd h3 hl
  · exact slow_pos_no n d w h1 h2 (by omega) h4 hl
  · exact slow_pos_yes n d w h1 h2 (by omega) h4 hl
end Go.Proofs.Ytkkajcdjkfbcgaa
