/- The laws' own copies and comparisons of systems, rays and parts; how they are opened; parts' faults; systems turned about. -/
import Derived.Test.YtnikgmjjkdhjbaaOpen
import Derived.Test.YtnikgmjjkdhjbaaMake
import Derived.Test.YtnikgmjjkdhjbaaFo
namespace Go.Proofs.Ytnikgmjjkdhjbaa
open Go.RowKit
set_option linter.unusedVariables false
set_option linter.unusedSimpArgs false
set_option maxRecDepth 20000 in
set_option maxHeartbeats 1600000 in
theorem toMat (m : Mx) (w : World) : Calls Try.prog 27 #[.agg #[.int .i64 m.A.n, .int .i64 m.A.d, .int .i64 m.B.n, .int .i64 m.B.d, .int .i64 m.C.n, .int .i64 m.C.d, .int .i64 m.D.n, .int .i64 m.D.d]] w fun e w' => e = .returned (.agg #[.int .i64 m.A.n, .int .i64 m.A.d, .int .i64 m.B.n, .int .i64 m.B.d, .int .i64 m.C.n, .int .i64 m.C.d, .int .i64 m.D.n, .int .i64 m.D.d]) ∧ Below w.heap.size w w' := by
  go_enter Try.func27, Try.ntmps27
  go_wp2_with fail
  refine (toFrac_any m.A.n m.A.d _).mono ?_
  rintro e w1 ⟨rfl, hb⟩
  have s0 : w.heap.size + 1 + 1 < w1.heap.size := by have := hb.size; simp at this; omega
  have c0_0 : w1.cell? ⟨w.heap.size, 0, none⟩ = some (.int .i64 m.A.n) := (hb.cell (p := ⟨w.heap.size, 0, none⟩) (by first | (simp; done) | (simp; omega))).trans (by go_simp)
  have c0_1 : w1.cell? ⟨w.heap.size, 1, none⟩ = some (.int .i64 m.A.d) := (hb.cell (p := ⟨w.heap.size, 1, none⟩) (by first | (simp; done) | (simp; omega))).trans (by go_simp)
  have c0_2 : w1.cell? ⟨w.heap.size, 2, none⟩ = some (.int .i64 m.B.n) := (hb.cell (p := ⟨w.heap.size, 2, none⟩) (by first | (simp; done) | (simp; omega))).trans (by go_simp)
  have c0_3 : w1.cell? ⟨w.heap.size, 3, none⟩ = some (.int .i64 m.B.d) := (hb.cell (p := ⟨w.heap.size, 3, none⟩) (by first | (simp; done) | (simp; omega))).trans (by go_simp)
  have c0_4 : w1.cell? ⟨w.heap.size, 4, none⟩ = some (.int .i64 m.C.n) := (hb.cell (p := ⟨w.heap.size, 4, none⟩) (by first | (simp; done) | (simp; omega))).trans (by go_simp)
  have c0_5 : w1.cell? ⟨w.heap.size, 5, none⟩ = some (.int .i64 m.C.d) := (hb.cell (p := ⟨w.heap.size, 5, none⟩) (by first | (simp; done) | (simp; omega))).trans (by go_simp)
  have c0_6 : w1.cell? ⟨w.heap.size, 6, none⟩ = some (.int .i64 m.D.n) := (hb.cell (p := ⟨w.heap.size, 6, none⟩) (by first | (simp; done) | (simp; omega))).trans (by go_simp)
  have c0_7 : w1.cell? ⟨w.heap.size, 7, none⟩ = some (.int .i64 m.D.d) := (hb.cell (p := ⟨w.heap.size, 7, none⟩) (by first | (simp; done) | (simp; omega))).trans (by go_simp)
  have c0_8 : w1.cell? ⟨w.heap.size + 1, 0, none⟩ = some (.int .i64 0) := (hb.cell (p := ⟨w.heap.size + 1, 0, none⟩) (by first | (simp; done) | (simp; omega))).trans (by go_simp)
  have c0_9 : w1.cell? ⟨w.heap.size + 1, 1, none⟩ = some (.int .i64 0) := (hb.cell (p := ⟨w.heap.size + 1, 1, none⟩) (by first | (simp; done) | (simp; omega))).trans (by go_simp)
  have c0_10 : w1.cell? ⟨w.heap.size + 1, 2, none⟩ = some (.int .i64 0) := (hb.cell (p := ⟨w.heap.size + 1, 2, none⟩) (by first | (simp; done) | (simp; omega))).trans (by go_simp)
  have c0_11 : w1.cell? ⟨w.heap.size + 1, 3, none⟩ = some (.int .i64 0) := (hb.cell (p := ⟨w.heap.size + 1, 3, none⟩) (by first | (simp; done) | (simp; omega))).trans (by go_simp)
  have c0_12 : w1.cell? ⟨w.heap.size + 1, 4, none⟩ = some (.int .i64 0) := (hb.cell (p := ⟨w.heap.size + 1, 4, none⟩) (by first | (simp; done) | (simp; omega))).trans (by go_simp)
  have c0_13 : w1.cell? ⟨w.heap.size + 1, 5, none⟩ = some (.int .i64 0) := (hb.cell (p := ⟨w.heap.size + 1, 5, none⟩) (by first | (simp; done) | (simp; omega))).trans (by go_simp)
  have c0_14 : w1.cell? ⟨w.heap.size + 1, 6, none⟩ = some (.int .i64 0) := (hb.cell (p := ⟨w.heap.size + 1, 6, none⟩) (by first | (simp; done) | (simp; omega))).trans (by go_simp)
  have c0_15 : w1.cell? ⟨w.heap.size + 1, 7, none⟩ = some (.int .i64 0) := (hb.cell (p := ⟨w.heap.size + 1, 7, none⟩) (by first | (simp; done) | (simp; omega))).trans (by go_simp)
  have c0_16 : w1.cell? ⟨w.heap.size + 1 + 1, 0, none⟩ = some (.int .i64 0) := (hb.cell (p := ⟨w.heap.size + 1 + 1, 0, none⟩) (by first | (simp; done) | (simp; omega))).trans (by go_simp)
  have c0_17 : w1.cell? ⟨w.heap.size + 1 + 1, 1, none⟩ = some (.int .i64 0) := (hb.cell (p := ⟨w.heap.size + 1 + 1, 1, none⟩) (by first | (simp; done) | (simp; omega))).trans (by go_simp)
  have c0_18 : w1.cell? ⟨w.heap.size + 1 + 1, 2, none⟩ = some (.int .i64 0) := (hb.cell (p := ⟨w.heap.size + 1 + 1, 2, none⟩) (by first | (simp; done) | (simp; omega))).trans (by go_simp)
  have c0_19 : w1.cell? ⟨w.heap.size + 1 + 1, 3, none⟩ = some (.int .i64 0) := (hb.cell (p := ⟨w.heap.size + 1 + 1, 3, none⟩) (by first | (simp; done) | (simp; omega))).trans (by go_simp)
  have c0_20 : w1.cell? ⟨w.heap.size + 1 + 1, 4, none⟩ = some (.int .i64 0) := (hb.cell (p := ⟨w.heap.size + 1 + 1, 4, none⟩) (by first | (simp; done) | (simp; omega))).trans (by go_simp)
  have c0_21 : w1.cell? ⟨w.heap.size + 1 + 1, 5, none⟩ = some (.int .i64 0) := (hb.cell (p := ⟨w.heap.size + 1 + 1, 5, none⟩) (by first | (simp; done) | (simp; omega))).trans (by go_simp)
  have c0_22 : w1.cell? ⟨w.heap.size + 1 + 1, 6, none⟩ = some (.int .i64 0) := (hb.cell (p := ⟨w.heap.size + 1 + 1, 6, none⟩) (by first | (simp; done) | (simp; omega))).trans (by go_simp)
  have c0_23 : w1.cell? ⟨w.heap.size + 1 + 1, 7, none⟩ = some (.int .i64 0) := (hb.cell (p := ⟨w.heap.size + 1 + 1, 7, none⟩) (by first | (simp; done) | (simp; omega))).trans (by go_simp)
  have f0_0 : w1.frozen? ⟨w.heap.size + 1, 0, none⟩ = false := (hb.frozen (p := ⟨w.heap.size + 1, 0, none⟩) (by first | (simp; done) | (simp; omega))).trans (by go_simp)
  have f0_1 : w1.frozen? ⟨w.heap.size + 1, 1, none⟩ = false := (hb.frozen (p := ⟨w.heap.size + 1, 1, none⟩) (by first | (simp; done) | (simp; omega))).trans (by go_simp)
  have f0_2 : w1.frozen? ⟨w.heap.size + 1, 2, none⟩ = false := (hb.frozen (p := ⟨w.heap.size + 1, 2, none⟩) (by first | (simp; done) | (simp; omega))).trans (by go_simp)
  have f0_3 : w1.frozen? ⟨w.heap.size + 1, 3, none⟩ = false := (hb.frozen (p := ⟨w.heap.size + 1, 3, none⟩) (by first | (simp; done) | (simp; omega))).trans (by go_simp)
  have f0_4 : w1.frozen? ⟨w.heap.size + 1, 4, none⟩ = false := (hb.frozen (p := ⟨w.heap.size + 1, 4, none⟩) (by first | (simp; done) | (simp; omega))).trans (by go_simp)
  have f0_5 : w1.frozen? ⟨w.heap.size + 1, 5, none⟩ = false := (hb.frozen (p := ⟨w.heap.size + 1, 5, none⟩) (by first | (simp; done) | (simp; omega))).trans (by go_simp)
  have f0_6 : w1.frozen? ⟨w.heap.size + 1, 6, none⟩ = false := (hb.frozen (p := ⟨w.heap.size + 1, 6, none⟩) (by first | (simp; done) | (simp; omega))).trans (by go_simp)
  have f0_7 : w1.frozen? ⟨w.heap.size + 1, 7, none⟩ = false := (hb.frozen (p := ⟨w.heap.size + 1, 7, none⟩) (by first | (simp; done) | (simp; omega))).trans (by go_simp)
  have f0_8 : w1.frozen? ⟨w.heap.size + 1 + 1, 0, none⟩ = false := (hb.frozen (p := ⟨w.heap.size + 1 + 1, 0, none⟩) (by first | (simp; done) | (simp; omega))).trans (by go_simp)
  have f0_9 : w1.frozen? ⟨w.heap.size + 1 + 1, 1, none⟩ = false := (hb.frozen (p := ⟨w.heap.size + 1 + 1, 1, none⟩) (by first | (simp; done) | (simp; omega))).trans (by go_simp)
  have f0_10 : w1.frozen? ⟨w.heap.size + 1 + 1, 2, none⟩ = false := (hb.frozen (p := ⟨w.heap.size + 1 + 1, 2, none⟩) (by first | (simp; done) | (simp; omega))).trans (by go_simp)
  have f0_11 : w1.frozen? ⟨w.heap.size + 1 + 1, 3, none⟩ = false := (hb.frozen (p := ⟨w.heap.size + 1 + 1, 3, none⟩) (by first | (simp; done) | (simp; omega))).trans (by go_simp)
  have f0_12 : w1.frozen? ⟨w.heap.size + 1 + 1, 4, none⟩ = false := (hb.frozen (p := ⟨w.heap.size + 1 + 1, 4, none⟩) (by first | (simp; done) | (simp; omega))).trans (by go_simp)
  have f0_13 : w1.frozen? ⟨w.heap.size + 1 + 1, 5, none⟩ = false := (hb.frozen (p := ⟨w.heap.size + 1 + 1, 5, none⟩) (by first | (simp; done) | (simp; omega))).trans (by go_simp)
  have f0_14 : w1.frozen? ⟨w.heap.size + 1 + 1, 6, none⟩ = false := (hb.frozen (p := ⟨w.heap.size + 1 + 1, 6, none⟩) (by first | (simp; done) | (simp; omega))).trans (by go_simp)
  have f0_15 : w1.frozen? ⟨w.heap.size + 1 + 1, 7, none⟩ = false := (hb.frozen (p := ⟨w.heap.size + 1 + 1, 7, none⟩) (by first | (simp; done) | (simp; omega))).trans (by go_simp)
  have HO : Hid (Below w.heap.size w w1) := by refine box_step ?_ hb (by simp <;> omega); go_grown
  clear hb 
  go_wp2_with fail
  refine (toFrac_any m.B.n m.B.d _).mono ?_
  rintro e w2 ⟨rfl, hb⟩
  have s1 : w.heap.size + 1 + 1 < w2.heap.size := by have := hb.size; simp at this; omega
  have c1_0 : w2.cell? ⟨w.heap.size, 0, none⟩ = some (.int .i64 m.A.n) := (hb.cell (p := ⟨w.heap.size, 0, none⟩) (by first | (simp; done) | (simp; omega))).trans (by go_simp)
  have c1_1 : w2.cell? ⟨w.heap.size, 1, none⟩ = some (.int .i64 m.A.d) := (hb.cell (p := ⟨w.heap.size, 1, none⟩) (by first | (simp; done) | (simp; omega))).trans (by go_simp)
  have c1_2 : w2.cell? ⟨w.heap.size, 2, none⟩ = some (.int .i64 m.B.n) := (hb.cell (p := ⟨w.heap.size, 2, none⟩) (by first | (simp; done) | (simp; omega))).trans (by go_simp)
  have c1_3 : w2.cell? ⟨w.heap.size, 3, none⟩ = some (.int .i64 m.B.d) := (hb.cell (p := ⟨w.heap.size, 3, none⟩) (by first | (simp; done) | (simp; omega))).trans (by go_simp)
  have c1_4 : w2.cell? ⟨w.heap.size, 4, none⟩ = some (.int .i64 m.C.n) := (hb.cell (p := ⟨w.heap.size, 4, none⟩) (by first | (simp; done) | (simp; omega))).trans (by go_simp)
  have c1_5 : w2.cell? ⟨w.heap.size, 5, none⟩ = some (.int .i64 m.C.d) := (hb.cell (p := ⟨w.heap.size, 5, none⟩) (by first | (simp; done) | (simp; omega))).trans (by go_simp)
  have c1_6 : w2.cell? ⟨w.heap.size, 6, none⟩ = some (.int .i64 m.D.n) := (hb.cell (p := ⟨w.heap.size, 6, none⟩) (by first | (simp; done) | (simp; omega))).trans (by go_simp)
  have c1_7 : w2.cell? ⟨w.heap.size, 7, none⟩ = some (.int .i64 m.D.d) := (hb.cell (p := ⟨w.heap.size, 7, none⟩) (by first | (simp; done) | (simp; omega))).trans (by go_simp)
  have c1_8 : w2.cell? ⟨w.heap.size + 1, 0, none⟩ = some (.int .i64 0) := (hb.cell (p := ⟨w.heap.size + 1, 0, none⟩) (by first | (simp; done) | (simp; omega))).trans (by go_simp)
  have c1_9 : w2.cell? ⟨w.heap.size + 1, 1, none⟩ = some (.int .i64 0) := (hb.cell (p := ⟨w.heap.size + 1, 1, none⟩) (by first | (simp; done) | (simp; omega))).trans (by go_simp)
  have c1_10 : w2.cell? ⟨w.heap.size + 1, 2, none⟩ = some (.int .i64 0) := (hb.cell (p := ⟨w.heap.size + 1, 2, none⟩) (by first | (simp; done) | (simp; omega))).trans (by go_simp)
  have c1_11 : w2.cell? ⟨w.heap.size + 1, 3, none⟩ = some (.int .i64 0) := (hb.cell (p := ⟨w.heap.size + 1, 3, none⟩) (by first | (simp; done) | (simp; omega))).trans (by go_simp)
  have c1_12 : w2.cell? ⟨w.heap.size + 1, 4, none⟩ = some (.int .i64 0) := (hb.cell (p := ⟨w.heap.size + 1, 4, none⟩) (by first | (simp; done) | (simp; omega))).trans (by go_simp)
  have c1_13 : w2.cell? ⟨w.heap.size + 1, 5, none⟩ = some (.int .i64 0) := (hb.cell (p := ⟨w.heap.size + 1, 5, none⟩) (by first | (simp; done) | (simp; omega))).trans (by go_simp)
  have c1_14 : w2.cell? ⟨w.heap.size + 1, 6, none⟩ = some (.int .i64 0) := (hb.cell (p := ⟨w.heap.size + 1, 6, none⟩) (by first | (simp; done) | (simp; omega))).trans (by go_simp)
  have c1_15 : w2.cell? ⟨w.heap.size + 1, 7, none⟩ = some (.int .i64 0) := (hb.cell (p := ⟨w.heap.size + 1, 7, none⟩) (by first | (simp; done) | (simp; omega))).trans (by go_simp)
  have c1_16 : w2.cell? ⟨w.heap.size + 1 + 1, 0, none⟩ = some (.int .i64 m.A.n) := (hb.cell (p := ⟨w.heap.size + 1 + 1, 0, none⟩) (by first | (simp; done) | (simp; omega))).trans (by go_simp)
  have c1_17 : w2.cell? ⟨w.heap.size + 1 + 1, 1, none⟩ = some (.int .i64 m.A.d) := (hb.cell (p := ⟨w.heap.size + 1 + 1, 1, none⟩) (by first | (simp; done) | (simp; omega))).trans (by go_simp)
  have c1_18 : w2.cell? ⟨w.heap.size + 1 + 1, 2, none⟩ = some (.int .i64 0) := (hb.cell (p := ⟨w.heap.size + 1 + 1, 2, none⟩) (by first | (simp; done) | (simp; omega))).trans (by go_simp)
  have c1_19 : w2.cell? ⟨w.heap.size + 1 + 1, 3, none⟩ = some (.int .i64 0) := (hb.cell (p := ⟨w.heap.size + 1 + 1, 3, none⟩) (by first | (simp; done) | (simp; omega))).trans (by go_simp)
  have c1_20 : w2.cell? ⟨w.heap.size + 1 + 1, 4, none⟩ = some (.int .i64 0) := (hb.cell (p := ⟨w.heap.size + 1 + 1, 4, none⟩) (by first | (simp; done) | (simp; omega))).trans (by go_simp)
  have c1_21 : w2.cell? ⟨w.heap.size + 1 + 1, 5, none⟩ = some (.int .i64 0) := (hb.cell (p := ⟨w.heap.size + 1 + 1, 5, none⟩) (by first | (simp; done) | (simp; omega))).trans (by go_simp)
  have c1_22 : w2.cell? ⟨w.heap.size + 1 + 1, 6, none⟩ = some (.int .i64 0) := (hb.cell (p := ⟨w.heap.size + 1 + 1, 6, none⟩) (by first | (simp; done) | (simp; omega))).trans (by go_simp)
  have c1_23 : w2.cell? ⟨w.heap.size + 1 + 1, 7, none⟩ = some (.int .i64 0) := (hb.cell (p := ⟨w.heap.size + 1 + 1, 7, none⟩) (by first | (simp; done) | (simp; omega))).trans (by go_simp)
  have f1_0 : w2.frozen? ⟨w.heap.size + 1, 0, none⟩ = false := (hb.frozen (p := ⟨w.heap.size + 1, 0, none⟩) (by first | (simp; done) | (simp; omega))).trans (by go_simp)
  have f1_1 : w2.frozen? ⟨w.heap.size + 1, 1, none⟩ = false := (hb.frozen (p := ⟨w.heap.size + 1, 1, none⟩) (by first | (simp; done) | (simp; omega))).trans (by go_simp)
  have f1_2 : w2.frozen? ⟨w.heap.size + 1, 2, none⟩ = false := (hb.frozen (p := ⟨w.heap.size + 1, 2, none⟩) (by first | (simp; done) | (simp; omega))).trans (by go_simp)
  have f1_3 : w2.frozen? ⟨w.heap.size + 1, 3, none⟩ = false := (hb.frozen (p := ⟨w.heap.size + 1, 3, none⟩) (by first | (simp; done) | (simp; omega))).trans (by go_simp)
  have f1_4 : w2.frozen? ⟨w.heap.size + 1, 4, none⟩ = false := (hb.frozen (p := ⟨w.heap.size + 1, 4, none⟩) (by first | (simp; done) | (simp; omega))).trans (by go_simp)
  have f1_5 : w2.frozen? ⟨w.heap.size + 1, 5, none⟩ = false := (hb.frozen (p := ⟨w.heap.size + 1, 5, none⟩) (by first | (simp; done) | (simp; omega))).trans (by go_simp)
  have f1_6 : w2.frozen? ⟨w.heap.size + 1, 6, none⟩ = false := (hb.frozen (p := ⟨w.heap.size + 1, 6, none⟩) (by first | (simp; done) | (simp; omega))).trans (by go_simp)
  have f1_7 : w2.frozen? ⟨w.heap.size + 1, 7, none⟩ = false := (hb.frozen (p := ⟨w.heap.size + 1, 7, none⟩) (by first | (simp; done) | (simp; omega))).trans (by go_simp)
  have f1_8 : w2.frozen? ⟨w.heap.size + 1 + 1, 0, none⟩ = false := (hb.frozen (p := ⟨w.heap.size + 1 + 1, 0, none⟩) (by first | (simp; done) | (simp; omega))).trans (by go_simp)
  have f1_9 : w2.frozen? ⟨w.heap.size + 1 + 1, 1, none⟩ = false := (hb.frozen (p := ⟨w.heap.size + 1 + 1, 1, none⟩) (by first | (simp; done) | (simp; omega))).trans (by go_simp)
  have f1_10 : w2.frozen? ⟨w.heap.size + 1 + 1, 2, none⟩ = false := (hb.frozen (p := ⟨w.heap.size + 1 + 1, 2, none⟩) (by first | (simp; done) | (simp; omega))).trans (by go_simp)
  have f1_11 : w2.frozen? ⟨w.heap.size + 1 + 1, 3, none⟩ = false := (hb.frozen (p := ⟨w.heap.size + 1 + 1, 3, none⟩) (by first | (simp; done) | (simp; omega))).trans (by go_simp)
  have f1_12 : w2.frozen? ⟨w.heap.size + 1 + 1, 4, none⟩ = false := (hb.frozen (p := ⟨w.heap.size + 1 + 1, 4, none⟩) (by first | (simp; done) | (simp; omega))).trans (by go_simp)
  have f1_13 : w2.frozen? ⟨w.heap.size + 1 + 1, 5, none⟩ = false := (hb.frozen (p := ⟨w.heap.size + 1 + 1, 5, none⟩) (by first | (simp; done) | (simp; omega))).trans (by go_simp)
  have f1_14 : w2.frozen? ⟨w.heap.size + 1 + 1, 6, none⟩ = false := (hb.frozen (p := ⟨w.heap.size + 1 + 1, 6, none⟩) (by first | (simp; done) | (simp; omega))).trans (by go_simp)
  have f1_15 : w2.frozen? ⟨w.heap.size + 1 + 1, 7, none⟩ = false := (hb.frozen (p := ⟨w.heap.size + 1 + 1, 7, none⟩) (by first | (simp; done) | (simp; omega))).trans (by go_simp)
  have HO : Hid (Below w.heap.size w w2) := by have h := HO.out; refine box_step ?_ hb (by go_size); go_grown
  clear hb c0_0 c0_1 c0_2 c0_3 c0_4 c0_5 c0_6 c0_7 c0_8 c0_9 c0_10 c0_11 c0_12 c0_13 c0_14 c0_15 c0_16 c0_17 c0_18 c0_19 c0_20 c0_21 c0_22 c0_23 f0_0 f0_1 f0_2 f0_3 f0_4 f0_5 f0_6 f0_7 f0_8 f0_9 f0_10 f0_11 f0_12 f0_13 f0_14 f0_15 s0
  go_wp2_with fail
  refine (toFrac_any m.C.n m.C.d _).mono ?_
  rintro e w3 ⟨rfl, hb⟩
  have s2 : w.heap.size + 1 + 1 < w3.heap.size := by have := hb.size; simp at this; omega
  have c2_0 : w3.cell? ⟨w.heap.size, 0, none⟩ = some (.int .i64 m.A.n) := (hb.cell (p := ⟨w.heap.size, 0, none⟩) (by first | (simp; done) | (simp; omega))).trans (by go_simp)
  have c2_1 : w3.cell? ⟨w.heap.size, 1, none⟩ = some (.int .i64 m.A.d) := (hb.cell (p := ⟨w.heap.size, 1, none⟩) (by first | (simp; done) | (simp; omega))).trans (by go_simp)
  have c2_2 : w3.cell? ⟨w.heap.size, 2, none⟩ = some (.int .i64 m.B.n) := (hb.cell (p := ⟨w.heap.size, 2, none⟩) (by first | (simp; done) | (simp; omega))).trans (by go_simp)
  have c2_3 : w3.cell? ⟨w.heap.size, 3, none⟩ = some (.int .i64 m.B.d) := (hb.cell (p := ⟨w.heap.size, 3, none⟩) (by first | (simp; done) | (simp; omega))).trans (by go_simp)
  have c2_4 : w3.cell? ⟨w.heap.size, 4, none⟩ = some (.int .i64 m.C.n) := (hb.cell (p := ⟨w.heap.size, 4, none⟩) (by first | (simp; done) | (simp; omega))).trans (by go_simp)
  have c2_5 : w3.cell? ⟨w.heap.size, 5, none⟩ = some (.int .i64 m.C.d) := (hb.cell (p := ⟨w.heap.size, 5, none⟩) (by first | (simp; done) | (simp; omega))).trans (by go_simp)
  have c2_6 : w3.cell? ⟨w.heap.size, 6, none⟩ = some (.int .i64 m.D.n) := (hb.cell (p := ⟨w.heap.size, 6, none⟩) (by first | (simp; done) | (simp; omega))).trans (by go_simp)
  have c2_7 : w3.cell? ⟨w.heap.size, 7, none⟩ = some (.int .i64 m.D.d) := (hb.cell (p := ⟨w.heap.size, 7, none⟩) (by first | (simp; done) | (simp; omega))).trans (by go_simp)
  have c2_8 : w3.cell? ⟨w.heap.size + 1, 0, none⟩ = some (.int .i64 0) := (hb.cell (p := ⟨w.heap.size + 1, 0, none⟩) (by first | (simp; done) | (simp; omega))).trans (by go_simp)
  have c2_9 : w3.cell? ⟨w.heap.size + 1, 1, none⟩ = some (.int .i64 0) := (hb.cell (p := ⟨w.heap.size + 1, 1, none⟩) (by first | (simp; done) | (simp; omega))).trans (by go_simp)
  have c2_10 : w3.cell? ⟨w.heap.size + 1, 2, none⟩ = some (.int .i64 0) := (hb.cell (p := ⟨w.heap.size + 1, 2, none⟩) (by first | (simp; done) | (simp; omega))).trans (by go_simp)
  have c2_11 : w3.cell? ⟨w.heap.size + 1, 3, none⟩ = some (.int .i64 0) := (hb.cell (p := ⟨w.heap.size + 1, 3, none⟩) (by first | (simp; done) | (simp; omega))).trans (by go_simp)
  have c2_12 : w3.cell? ⟨w.heap.size + 1, 4, none⟩ = some (.int .i64 0) := (hb.cell (p := ⟨w.heap.size + 1, 4, none⟩) (by first | (simp; done) | (simp; omega))).trans (by go_simp)
  have c2_13 : w3.cell? ⟨w.heap.size + 1, 5, none⟩ = some (.int .i64 0) := (hb.cell (p := ⟨w.heap.size + 1, 5, none⟩) (by first | (simp; done) | (simp; omega))).trans (by go_simp)
  have c2_14 : w3.cell? ⟨w.heap.size + 1, 6, none⟩ = some (.int .i64 0) := (hb.cell (p := ⟨w.heap.size + 1, 6, none⟩) (by first | (simp; done) | (simp; omega))).trans (by go_simp)
  have c2_15 : w3.cell? ⟨w.heap.size + 1, 7, none⟩ = some (.int .i64 0) := (hb.cell (p := ⟨w.heap.size + 1, 7, none⟩) (by first | (simp; done) | (simp; omega))).trans (by go_simp)
  have c2_16 : w3.cell? ⟨w.heap.size + 1 + 1, 0, none⟩ = some (.int .i64 m.A.n) := (hb.cell (p := ⟨w.heap.size + 1 + 1, 0, none⟩) (by first | (simp; done) | (simp; omega))).trans (by go_simp)
  have c2_17 : w3.cell? ⟨w.heap.size + 1 + 1, 1, none⟩ = some (.int .i64 m.A.d) := (hb.cell (p := ⟨w.heap.size + 1 + 1, 1, none⟩) (by first | (simp; done) | (simp; omega))).trans (by go_simp)
  have c2_18 : w3.cell? ⟨w.heap.size + 1 + 1, 2, none⟩ = some (.int .i64 m.B.n) := (hb.cell (p := ⟨w.heap.size + 1 + 1, 2, none⟩) (by first | (simp; done) | (simp; omega))).trans (by go_simp)
  have c2_19 : w3.cell? ⟨w.heap.size + 1 + 1, 3, none⟩ = some (.int .i64 m.B.d) := (hb.cell (p := ⟨w.heap.size + 1 + 1, 3, none⟩) (by first | (simp; done) | (simp; omega))).trans (by go_simp)
  have c2_20 : w3.cell? ⟨w.heap.size + 1 + 1, 4, none⟩ = some (.int .i64 0) := (hb.cell (p := ⟨w.heap.size + 1 + 1, 4, none⟩) (by first | (simp; done) | (simp; omega))).trans (by go_simp)
  have c2_21 : w3.cell? ⟨w.heap.size + 1 + 1, 5, none⟩ = some (.int .i64 0) := (hb.cell (p := ⟨w.heap.size + 1 + 1, 5, none⟩) (by first | (simp; done) | (simp; omega))).trans (by go_simp)
  have c2_22 : w3.cell? ⟨w.heap.size + 1 + 1, 6, none⟩ = some (.int .i64 0) := (hb.cell (p := ⟨w.heap.size + 1 + 1, 6, none⟩) (by first | (simp; done) | (simp; omega))).trans (by go_simp)
  have c2_23 : w3.cell? ⟨w.heap.size + 1 + 1, 7, none⟩ = some (.int .i64 0) := (hb.cell (p := ⟨w.heap.size + 1 + 1, 7, none⟩) (by first | (simp; done) | (simp; omega))).trans (by go_simp)
  have f2_0 : w3.frozen? ⟨w.heap.size + 1, 0, none⟩ = false := (hb.frozen (p := ⟨w.heap.size + 1, 0, none⟩) (by first | (simp; done) | (simp; omega))).trans (by go_simp)
  have f2_1 : w3.frozen? ⟨w.heap.size + 1, 1, none⟩ = false := (hb.frozen (p := ⟨w.heap.size + 1, 1, none⟩) (by first | (simp; done) | (simp; omega))).trans (by go_simp)
  have f2_2 : w3.frozen? ⟨w.heap.size + 1, 2, none⟩ = false := (hb.frozen (p := ⟨w.heap.size + 1, 2, none⟩) (by first | (simp; done) | (simp; omega))).trans (by go_simp)
  have f2_3 : w3.frozen? ⟨w.heap.size + 1, 3, none⟩ = false := (hb.frozen (p := ⟨w.heap.size + 1, 3, none⟩) (by first | (simp; done) | (simp; omega))).trans (by go_simp)
  have f2_4 : w3.frozen? ⟨w.heap.size + 1, 4, none⟩ = false := (hb.frozen (p := ⟨w.heap.size + 1, 4, none⟩) (by first | (simp; done) | (simp; omega))).trans (by go_simp)
  have f2_5 : w3.frozen? ⟨w.heap.size + 1, 5, none⟩ = false := (hb.frozen (p := ⟨w.heap.size + 1, 5, none⟩) (by first | (simp; done) | (simp; omega))).trans (by go_simp)
  have f2_6 : w3.frozen? ⟨w.heap.size + 1, 6, none⟩ = false := (hb.frozen (p := ⟨w.heap.size + 1, 6, none⟩) (by first | (simp; done) | (simp; omega))).trans (by go_simp)
  have f2_7 : w3.frozen? ⟨w.heap.size + 1, 7, none⟩ = false := (hb.frozen (p := ⟨w.heap.size + 1, 7, none⟩) (by first | (simp; done) | (simp; omega))).trans (by go_simp)
  have f2_8 : w3.frozen? ⟨w.heap.size + 1 + 1, 0, none⟩ = false := (hb.frozen (p := ⟨w.heap.size + 1 + 1, 0, none⟩) (by first | (simp; done) | (simp; omega))).trans (by go_simp)
  have f2_9 : w3.frozen? ⟨w.heap.size + 1 + 1, 1, none⟩ = false := (hb.frozen (p := ⟨w.heap.size + 1 + 1, 1, none⟩) (by first | (simp; done) | (simp; omega))).trans (by go_simp)
  have f2_10 : w3.frozen? ⟨w.heap.size + 1 + 1, 2, none⟩ = false := (hb.frozen (p := ⟨w.heap.size + 1 + 1, 2, none⟩) (by first | (simp; done) | (simp; omega))).trans (by go_simp)
  have f2_11 : w3.frozen? ⟨w.heap.size + 1 + 1, 3, none⟩ = false := (hb.frozen (p := ⟨w.heap.size + 1 + 1, 3, none⟩) (by first | (simp; done) | (simp; omega))).trans (by go_simp)
  have f2_12 : w3.frozen? ⟨w.heap.size + 1 + 1, 4, none⟩ = false := (hb.frozen (p := ⟨w.heap.size + 1 + 1, 4, none⟩) (by first | (simp; done) | (simp; omega))).trans (by go_simp)
  have f2_13 : w3.frozen? ⟨w.heap.size + 1 + 1, 5, none⟩ = false := (hb.frozen (p := ⟨w.heap.size + 1 + 1, 5, none⟩) (by first | (simp; done) | (simp; omega))).trans (by go_simp)
  have f2_14 : w3.frozen? ⟨w.heap.size + 1 + 1, 6, none⟩ = false := (hb.frozen (p := ⟨w.heap.size + 1 + 1, 6, none⟩) (by first | (simp; done) | (simp; omega))).trans (by go_simp)
  have f2_15 : w3.frozen? ⟨w.heap.size + 1 + 1, 7, none⟩ = false := (hb.frozen (p := ⟨w.heap.size + 1 + 1, 7, none⟩) (by first | (simp; done) | (simp; omega))).trans (by go_simp)
  have HO : Hid (Below w.heap.size w w3) := by have h := HO.out; refine box_step ?_ hb (by go_size); go_grown
  clear hb c1_0 c1_1 c1_2 c1_3 c1_4 c1_5 c1_6 c1_7 c1_8 c1_9 c1_10 c1_11 c1_12 c1_13 c1_14 c1_15 c1_16 c1_17 c1_18 c1_19 c1_20 c1_21 c1_22 c1_23 f1_0 f1_1 f1_2 f1_3 f1_4 f1_5 f1_6 f1_7 f1_8 f1_9 f1_10 f1_11 f1_12 f1_13 f1_14 f1_15 s1
  go_wp2_with fail
  refine (toFrac_any m.D.n m.D.d _).mono ?_
  rintro e w4 ⟨rfl, hb⟩
  have s3 : w.heap.size + 1 + 1 < w4.heap.size := by have := hb.size; simp at this; omega
  have c3_0 : w4.cell? ⟨w.heap.size, 0, none⟩ = some (.int .i64 m.A.n) := (hb.cell (p := ⟨w.heap.size, 0, none⟩) (by first | (simp; done) | (simp; omega))).trans (by go_simp)
  have c3_1 : w4.cell? ⟨w.heap.size, 1, none⟩ = some (.int .i64 m.A.d) := (hb.cell (p := ⟨w.heap.size, 1, none⟩) (by first | (simp; done) | (simp; omega))).trans (by go_simp)
  have c3_2 : w4.cell? ⟨w.heap.size, 2, none⟩ = some (.int .i64 m.B.n) := (hb.cell (p := ⟨w.heap.size, 2, none⟩) (by first | (simp; done) | (simp; omega))).trans (by go_simp)
  have c3_3 : w4.cell? ⟨w.heap.size, 3, none⟩ = some (.int .i64 m.B.d) := (hb.cell (p := ⟨w.heap.size, 3, none⟩) (by first | (simp; done) | (simp; omega))).trans (by go_simp)
  have c3_4 : w4.cell? ⟨w.heap.size, 4, none⟩ = some (.int .i64 m.C.n) := (hb.cell (p := ⟨w.heap.size, 4, none⟩) (by first | (simp; done) | (simp; omega))).trans (by go_simp)
  have c3_5 : w4.cell? ⟨w.heap.size, 5, none⟩ = some (.int .i64 m.C.d) := (hb.cell (p := ⟨w.heap.size, 5, none⟩) (by first | (simp; done) | (simp; omega))).trans (by go_simp)
  have c3_6 : w4.cell? ⟨w.heap.size, 6, none⟩ = some (.int .i64 m.D.n) := (hb.cell (p := ⟨w.heap.size, 6, none⟩) (by first | (simp; done) | (simp; omega))).trans (by go_simp)
  have c3_7 : w4.cell? ⟨w.heap.size, 7, none⟩ = some (.int .i64 m.D.d) := (hb.cell (p := ⟨w.heap.size, 7, none⟩) (by first | (simp; done) | (simp; omega))).trans (by go_simp)
  have c3_8 : w4.cell? ⟨w.heap.size + 1, 0, none⟩ = some (.int .i64 0) := (hb.cell (p := ⟨w.heap.size + 1, 0, none⟩) (by first | (simp; done) | (simp; omega))).trans (by go_simp)
  have c3_9 : w4.cell? ⟨w.heap.size + 1, 1, none⟩ = some (.int .i64 0) := (hb.cell (p := ⟨w.heap.size + 1, 1, none⟩) (by first | (simp; done) | (simp; omega))).trans (by go_simp)
  have c3_10 : w4.cell? ⟨w.heap.size + 1, 2, none⟩ = some (.int .i64 0) := (hb.cell (p := ⟨w.heap.size + 1, 2, none⟩) (by first | (simp; done) | (simp; omega))).trans (by go_simp)
  have c3_11 : w4.cell? ⟨w.heap.size + 1, 3, none⟩ = some (.int .i64 0) := (hb.cell (p := ⟨w.heap.size + 1, 3, none⟩) (by first | (simp; done) | (simp; omega))).trans (by go_simp)
  have c3_12 : w4.cell? ⟨w.heap.size + 1, 4, none⟩ = some (.int .i64 0) := (hb.cell (p := ⟨w.heap.size + 1, 4, none⟩) (by first | (simp; done) | (simp; omega))).trans (by go_simp)
  have c3_13 : w4.cell? ⟨w.heap.size + 1, 5, none⟩ = some (.int .i64 0) := (hb.cell (p := ⟨w.heap.size + 1, 5, none⟩) (by first | (simp; done) | (simp; omega))).trans (by go_simp)
  have c3_14 : w4.cell? ⟨w.heap.size + 1, 6, none⟩ = some (.int .i64 0) := (hb.cell (p := ⟨w.heap.size + 1, 6, none⟩) (by first | (simp; done) | (simp; omega))).trans (by go_simp)
  have c3_15 : w4.cell? ⟨w.heap.size + 1, 7, none⟩ = some (.int .i64 0) := (hb.cell (p := ⟨w.heap.size + 1, 7, none⟩) (by first | (simp; done) | (simp; omega))).trans (by go_simp)
  have c3_16 : w4.cell? ⟨w.heap.size + 1 + 1, 0, none⟩ = some (.int .i64 m.A.n) := (hb.cell (p := ⟨w.heap.size + 1 + 1, 0, none⟩) (by first | (simp; done) | (simp; omega))).trans (by go_simp)
  have c3_17 : w4.cell? ⟨w.heap.size + 1 + 1, 1, none⟩ = some (.int .i64 m.A.d) := (hb.cell (p := ⟨w.heap.size + 1 + 1, 1, none⟩) (by first | (simp; done) | (simp; omega))).trans (by go_simp)
  have c3_18 : w4.cell? ⟨w.heap.size + 1 + 1, 2, none⟩ = some (.int .i64 m.B.n) := (hb.cell (p := ⟨w.heap.size + 1 + 1, 2, none⟩) (by first | (simp; done) | (simp; omega))).trans (by go_simp)
  have c3_19 : w4.cell? ⟨w.heap.size + 1 + 1, 3, none⟩ = some (.int .i64 m.B.d) := (hb.cell (p := ⟨w.heap.size + 1 + 1, 3, none⟩) (by first | (simp; done) | (simp; omega))).trans (by go_simp)
  have c3_20 : w4.cell? ⟨w.heap.size + 1 + 1, 4, none⟩ = some (.int .i64 m.C.n) := (hb.cell (p := ⟨w.heap.size + 1 + 1, 4, none⟩) (by first | (simp; done) | (simp; omega))).trans (by go_simp)
  have c3_21 : w4.cell? ⟨w.heap.size + 1 + 1, 5, none⟩ = some (.int .i64 m.C.d) := (hb.cell (p := ⟨w.heap.size + 1 + 1, 5, none⟩) (by first | (simp; done) | (simp; omega))).trans (by go_simp)
  have c3_22 : w4.cell? ⟨w.heap.size + 1 + 1, 6, none⟩ = some (.int .i64 0) := (hb.cell (p := ⟨w.heap.size + 1 + 1, 6, none⟩) (by first | (simp; done) | (simp; omega))).trans (by go_simp)
  have c3_23 : w4.cell? ⟨w.heap.size + 1 + 1, 7, none⟩ = some (.int .i64 0) := (hb.cell (p := ⟨w.heap.size + 1 + 1, 7, none⟩) (by first | (simp; done) | (simp; omega))).trans (by go_simp)
  have f3_0 : w4.frozen? ⟨w.heap.size + 1, 0, none⟩ = false := (hb.frozen (p := ⟨w.heap.size + 1, 0, none⟩) (by first | (simp; done) | (simp; omega))).trans (by go_simp)
  have f3_1 : w4.frozen? ⟨w.heap.size + 1, 1, none⟩ = false := (hb.frozen (p := ⟨w.heap.size + 1, 1, none⟩) (by first | (simp; done) | (simp; omega))).trans (by go_simp)
  have f3_2 : w4.frozen? ⟨w.heap.size + 1, 2, none⟩ = false := (hb.frozen (p := ⟨w.heap.size + 1, 2, none⟩) (by first | (simp; done) | (simp; omega))).trans (by go_simp)
  have f3_3 : w4.frozen? ⟨w.heap.size + 1, 3, none⟩ = false := (hb.frozen (p := ⟨w.heap.size + 1, 3, none⟩) (by first | (simp; done) | (simp; omega))).trans (by go_simp)
  have f3_4 : w4.frozen? ⟨w.heap.size + 1, 4, none⟩ = false := (hb.frozen (p := ⟨w.heap.size + 1, 4, none⟩) (by first | (simp; done) | (simp; omega))).trans (by go_simp)
  have f3_5 : w4.frozen? ⟨w.heap.size + 1, 5, none⟩ = false := (hb.frozen (p := ⟨w.heap.size + 1, 5, none⟩) (by first | (simp; done) | (simp; omega))).trans (by go_simp)
  have f3_6 : w4.frozen? ⟨w.heap.size + 1, 6, none⟩ = false := (hb.frozen (p := ⟨w.heap.size + 1, 6, none⟩) (by first | (simp; done) | (simp; omega))).trans (by go_simp)
  have f3_7 : w4.frozen? ⟨w.heap.size + 1, 7, none⟩ = false := (hb.frozen (p := ⟨w.heap.size + 1, 7, none⟩) (by first | (simp; done) | (simp; omega))).trans (by go_simp)
  have f3_8 : w4.frozen? ⟨w.heap.size + 1 + 1, 0, none⟩ = false := (hb.frozen (p := ⟨w.heap.size + 1 + 1, 0, none⟩) (by first | (simp; done) | (simp; omega))).trans (by go_simp)
  have f3_9 : w4.frozen? ⟨w.heap.size + 1 + 1, 1, none⟩ = false := (hb.frozen (p := ⟨w.heap.size + 1 + 1, 1, none⟩) (by first | (simp; done) | (simp; omega))).trans (by go_simp)
  have f3_10 : w4.frozen? ⟨w.heap.size + 1 + 1, 2, none⟩ = false := (hb.frozen (p := ⟨w.heap.size + 1 + 1, 2, none⟩) (by first | (simp; done) | (simp; omega))).trans (by go_simp)
  have f3_11 : w4.frozen? ⟨w.heap.size + 1 + 1, 3, none⟩ = false := (hb.frozen (p := ⟨w.heap.size + 1 + 1, 3, none⟩) (by first | (simp; done) | (simp; omega))).trans (by go_simp)
  have f3_12 : w4.frozen? ⟨w.heap.size + 1 + 1, 4, none⟩ = false := (hb.frozen (p := ⟨w.heap.size + 1 + 1, 4, none⟩) (by first | (simp; done) | (simp; omega))).trans (by go_simp)
  have f3_13 : w4.frozen? ⟨w.heap.size + 1 + 1, 5, none⟩ = false := (hb.frozen (p := ⟨w.heap.size + 1 + 1, 5, none⟩) (by first | (simp; done) | (simp; omega))).trans (by go_simp)
  have f3_14 : w4.frozen? ⟨w.heap.size + 1 + 1, 6, none⟩ = false := (hb.frozen (p := ⟨w.heap.size + 1 + 1, 6, none⟩) (by first | (simp; done) | (simp; omega))).trans (by go_simp)
  have f3_15 : w4.frozen? ⟨w.heap.size + 1 + 1, 7, none⟩ = false := (hb.frozen (p := ⟨w.heap.size + 1 + 1, 7, none⟩) (by first | (simp; done) | (simp; omega))).trans (by go_simp)
  have HO : Hid (Below w.heap.size w w4) := by have h := HO.out; refine box_step ?_ hb (by go_size); go_grown
  clear hb c2_0 c2_1 c2_2 c2_3 c2_4 c2_5 c2_6 c2_7 c2_8 c2_9 c2_10 c2_11 c2_12 c2_13 c2_14 c2_15 c2_16 c2_17 c2_18 c2_19 c2_20 c2_21 c2_22 c2_23 f2_0 f2_1 f2_2 f2_3 f2_4 f2_5 f2_6 f2_7 f2_8 f2_9 f2_10 f2_11 f2_12 f2_13 f2_14 f2_15 s2
  go_wp2
  refine bodyPost_ret (v := .agg #[.int .i64 m.A.n, .int .i64 m.A.d, .int .i64 m.B.n, .int .i64 m.B.d, .int .i64 m.C.n, .int .i64 m.C.d, .int .i64 m.D.n, .int .i64 m.D.d]) (by simp [results, Try.results27, go_sem, c3_8, c3_9, c3_10, c3_11, c3_12, c3_13, c3_14, c3_15] <;> (repeat' (first | rfl | apply And.intro))) rfl ⟨rfl, ?_⟩
  have h := HO.out
  go_grown
set_option maxRecDepth 20000 in
set_option maxHeartbeats 1600000 in
theorem toRay (r : Ry) (w : World) : Calls Try.prog 36 #[.agg #[.int .i64 r.Y.n, .int .i64 r.Y.d, .int .i64 r.U.n, .int .i64 r.U.d]] w fun e w' => e = .returned (.agg #[.int .i64 r.Y.n, .int .i64 r.Y.d, .int .i64 r.U.n, .int .i64 r.U.d]) ∧ Below w.heap.size w w' := by
  go_enter Try.func36, Try.ntmps36
  go_wp2_with fail
  refine (toFrac_any r.Y.n r.Y.d _).mono ?_
  rintro e w1 ⟨rfl, hb⟩
  have s0 : w.heap.size + 1 + 1 < w1.heap.size := by have := hb.size; simp at this; omega
  have c0_0 : w1.cell? ⟨w.heap.size, 0, none⟩ = some (.int .i64 r.Y.n) := (hb.cell (p := ⟨w.heap.size, 0, none⟩) (by first | (simp; done) | (simp; omega))).trans (by go_simp)
  have c0_1 : w1.cell? ⟨w.heap.size, 1, none⟩ = some (.int .i64 r.Y.d) := (hb.cell (p := ⟨w.heap.size, 1, none⟩) (by first | (simp; done) | (simp; omega))).trans (by go_simp)
  have c0_2 : w1.cell? ⟨w.heap.size, 2, none⟩ = some (.int .i64 r.U.n) := (hb.cell (p := ⟨w.heap.size, 2, none⟩) (by first | (simp; done) | (simp; omega))).trans (by go_simp)
  have c0_3 : w1.cell? ⟨w.heap.size, 3, none⟩ = some (.int .i64 r.U.d) := (hb.cell (p := ⟨w.heap.size, 3, none⟩) (by first | (simp; done) | (simp; omega))).trans (by go_simp)
  have c0_4 : w1.cell? ⟨w.heap.size + 1, 0, none⟩ = some (.int .i64 0) := (hb.cell (p := ⟨w.heap.size + 1, 0, none⟩) (by first | (simp; done) | (simp; omega))).trans (by go_simp)
  have c0_5 : w1.cell? ⟨w.heap.size + 1, 1, none⟩ = some (.int .i64 0) := (hb.cell (p := ⟨w.heap.size + 1, 1, none⟩) (by first | (simp; done) | (simp; omega))).trans (by go_simp)
  have c0_6 : w1.cell? ⟨w.heap.size + 1, 2, none⟩ = some (.int .i64 0) := (hb.cell (p := ⟨w.heap.size + 1, 2, none⟩) (by first | (simp; done) | (simp; omega))).trans (by go_simp)
  have c0_7 : w1.cell? ⟨w.heap.size + 1, 3, none⟩ = some (.int .i64 0) := (hb.cell (p := ⟨w.heap.size + 1, 3, none⟩) (by first | (simp; done) | (simp; omega))).trans (by go_simp)
  have c0_8 : w1.cell? ⟨w.heap.size + 1 + 1, 0, none⟩ = some (.int .i64 0) := (hb.cell (p := ⟨w.heap.size + 1 + 1, 0, none⟩) (by first | (simp; done) | (simp; omega))).trans (by go_simp)
  have c0_9 : w1.cell? ⟨w.heap.size + 1 + 1, 1, none⟩ = some (.int .i64 0) := (hb.cell (p := ⟨w.heap.size + 1 + 1, 1, none⟩) (by first | (simp; done) | (simp; omega))).trans (by go_simp)
  have c0_10 : w1.cell? ⟨w.heap.size + 1 + 1, 2, none⟩ = some (.int .i64 0) := (hb.cell (p := ⟨w.heap.size + 1 + 1, 2, none⟩) (by first | (simp; done) | (simp; omega))).trans (by go_simp)
  have c0_11 : w1.cell? ⟨w.heap.size + 1 + 1, 3, none⟩ = some (.int .i64 0) := (hb.cell (p := ⟨w.heap.size + 1 + 1, 3, none⟩) (by first | (simp; done) | (simp; omega))).trans (by go_simp)
  have f0_0 : w1.frozen? ⟨w.heap.size + 1, 0, none⟩ = false := (hb.frozen (p := ⟨w.heap.size + 1, 0, none⟩) (by first | (simp; done) | (simp; omega))).trans (by go_simp)
  have f0_1 : w1.frozen? ⟨w.heap.size + 1, 1, none⟩ = false := (hb.frozen (p := ⟨w.heap.size + 1, 1, none⟩) (by first | (simp; done) | (simp; omega))).trans (by go_simp)
  have f0_2 : w1.frozen? ⟨w.heap.size + 1, 2, none⟩ = false := (hb.frozen (p := ⟨w.heap.size + 1, 2, none⟩) (by first | (simp; done) | (simp; omega))).trans (by go_simp)
  have f0_3 : w1.frozen? ⟨w.heap.size + 1, 3, none⟩ = false := (hb.frozen (p := ⟨w.heap.size + 1, 3, none⟩) (by first | (simp; done) | (simp; omega))).trans (by go_simp)
  have f0_4 : w1.frozen? ⟨w.heap.size + 1 + 1, 0, none⟩ = false := (hb.frozen (p := ⟨w.heap.size + 1 + 1, 0, none⟩) (by first | (simp; done) | (simp; omega))).trans (by go_simp)
  have f0_5 : w1.frozen? ⟨w.heap.size + 1 + 1, 1, none⟩ = false := (hb.frozen (p := ⟨w.heap.size + 1 + 1, 1, none⟩) (by first | (simp; done) | (simp; omega))).trans (by go_simp)
  have f0_6 : w1.frozen? ⟨w.heap.size + 1 + 1, 2, none⟩ = false := (hb.frozen (p := ⟨w.heap.size + 1 + 1, 2, none⟩) (by first | (simp; done) | (simp; omega))).trans (by go_simp)
  have f0_7 : w1.frozen? ⟨w.heap.size + 1 + 1, 3, none⟩ = false := (hb.frozen (p := ⟨w.heap.size + 1 + 1, 3, none⟩) (by first | (simp; done) | (simp; omega))).trans (by go_simp)
  have HO : Hid (Below w.heap.size w w1) := by refine box_step ?_ hb (by simp <;> omega); go_grown
  clear hb 
  go_wp2_with fail
  refine (toFrac_any r.U.n r.U.d _).mono ?_
  rintro e w2 ⟨rfl, hb⟩
  have s1 : w.heap.size + 1 + 1 < w2.heap.size := by have := hb.size; simp at this; omega
  have c1_0 : w2.cell? ⟨w.heap.size, 0, none⟩ = some (.int .i64 r.Y.n) := (hb.cell (p := ⟨w.heap.size, 0, none⟩) (by first | (simp; done) | (simp; omega))).trans (by go_simp)
  have c1_1 : w2.cell? ⟨w.heap.size, 1, none⟩ = some (.int .i64 r.Y.d) := (hb.cell (p := ⟨w.heap.size, 1, none⟩) (by first | (simp; done) | (simp; omega))).trans (by go_simp)
  have c1_2 : w2.cell? ⟨w.heap.size, 2, none⟩ = some (.int .i64 r.U.n) := (hb.cell (p := ⟨w.heap.size, 2, none⟩) (by first | (simp; done) | (simp; omega))).trans (by go_simp)
  have c1_3 : w2.cell? ⟨w.heap.size, 3, none⟩ = some (.int .i64 r.U.d) := (hb.cell (p := ⟨w.heap.size, 3, none⟩) (by first | (simp; done) | (simp; omega))).trans (by go_simp)
  have c1_4 : w2.cell? ⟨w.heap.size + 1, 0, none⟩ = some (.int .i64 0) := (hb.cell (p := ⟨w.heap.size + 1, 0, none⟩) (by first | (simp; done) | (simp; omega))).trans (by go_simp)
  have c1_5 : w2.cell? ⟨w.heap.size + 1, 1, none⟩ = some (.int .i64 0) := (hb.cell (p := ⟨w.heap.size + 1, 1, none⟩) (by first | (simp; done) | (simp; omega))).trans (by go_simp)
  have c1_6 : w2.cell? ⟨w.heap.size + 1, 2, none⟩ = some (.int .i64 0) := (hb.cell (p := ⟨w.heap.size + 1, 2, none⟩) (by first | (simp; done) | (simp; omega))).trans (by go_simp)
  have c1_7 : w2.cell? ⟨w.heap.size + 1, 3, none⟩ = some (.int .i64 0) := (hb.cell (p := ⟨w.heap.size + 1, 3, none⟩) (by first | (simp; done) | (simp; omega))).trans (by go_simp)
  have c1_8 : w2.cell? ⟨w.heap.size + 1 + 1, 0, none⟩ = some (.int .i64 r.Y.n) := (hb.cell (p := ⟨w.heap.size + 1 + 1, 0, none⟩) (by first | (simp; done) | (simp; omega))).trans (by go_simp)
  have c1_9 : w2.cell? ⟨w.heap.size + 1 + 1, 1, none⟩ = some (.int .i64 r.Y.d) := (hb.cell (p := ⟨w.heap.size + 1 + 1, 1, none⟩) (by first | (simp; done) | (simp; omega))).trans (by go_simp)
  have c1_10 : w2.cell? ⟨w.heap.size + 1 + 1, 2, none⟩ = some (.int .i64 0) := (hb.cell (p := ⟨w.heap.size + 1 + 1, 2, none⟩) (by first | (simp; done) | (simp; omega))).trans (by go_simp)
  have c1_11 : w2.cell? ⟨w.heap.size + 1 + 1, 3, none⟩ = some (.int .i64 0) := (hb.cell (p := ⟨w.heap.size + 1 + 1, 3, none⟩) (by first | (simp; done) | (simp; omega))).trans (by go_simp)
  have f1_0 : w2.frozen? ⟨w.heap.size + 1, 0, none⟩ = false := (hb.frozen (p := ⟨w.heap.size + 1, 0, none⟩) (by first | (simp; done) | (simp; omega))).trans (by go_simp)
  have f1_1 : w2.frozen? ⟨w.heap.size + 1, 1, none⟩ = false := (hb.frozen (p := ⟨w.heap.size + 1, 1, none⟩) (by first | (simp; done) | (simp; omega))).trans (by go_simp)
  have f1_2 : w2.frozen? ⟨w.heap.size + 1, 2, none⟩ = false := (hb.frozen (p := ⟨w.heap.size + 1, 2, none⟩) (by first | (simp; done) | (simp; omega))).trans (by go_simp)
  have f1_3 : w2.frozen? ⟨w.heap.size + 1, 3, none⟩ = false := (hb.frozen (p := ⟨w.heap.size + 1, 3, none⟩) (by first | (simp; done) | (simp; omega))).trans (by go_simp)
  have f1_4 : w2.frozen? ⟨w.heap.size + 1 + 1, 0, none⟩ = false := (hb.frozen (p := ⟨w.heap.size + 1 + 1, 0, none⟩) (by first | (simp; done) | (simp; omega))).trans (by go_simp)
  have f1_5 : w2.frozen? ⟨w.heap.size + 1 + 1, 1, none⟩ = false := (hb.frozen (p := ⟨w.heap.size + 1 + 1, 1, none⟩) (by first | (simp; done) | (simp; omega))).trans (by go_simp)
  have f1_6 : w2.frozen? ⟨w.heap.size + 1 + 1, 2, none⟩ = false := (hb.frozen (p := ⟨w.heap.size + 1 + 1, 2, none⟩) (by first | (simp; done) | (simp; omega))).trans (by go_simp)
  have f1_7 : w2.frozen? ⟨w.heap.size + 1 + 1, 3, none⟩ = false := (hb.frozen (p := ⟨w.heap.size + 1 + 1, 3, none⟩) (by first | (simp; done) | (simp; omega))).trans (by go_simp)
  have HO : Hid (Below w.heap.size w w2) := by have h := HO.out; refine box_step ?_ hb (by go_size); go_grown
  clear hb c0_0 c0_1 c0_2 c0_3 c0_4 c0_5 c0_6 c0_7 c0_8 c0_9 c0_10 c0_11 f0_0 f0_1 f0_2 f0_3 f0_4 f0_5 f0_6 f0_7 s0
  go_wp2
  refine bodyPost_ret (v := .agg #[.int .i64 r.Y.n, .int .i64 r.Y.d, .int .i64 r.U.n, .int .i64 r.U.d]) (by simp [results, Try.results36, go_sem, c1_4, c1_5, c1_6, c1_7] <;> (repeat' (first | rfl | apply And.intro))) rfl ⟨rfl, ?_⟩
  have h := HO.out
  go_grown
set_option maxRecDepth 20000 in
set_option maxHeartbeats 1600000 in
theorem toPart (k : Int) (x : Q) (w : World) : Calls Try.prog 20 #[.agg #[.int .i64 k, .int .i64 x.n, .int .i64 x.d]] w fun e w' => e = .returned (.agg #[.int .i64 k, .int .i64 x.n, .int .i64 x.d]) ∧ Below w.heap.size w w' := by
  go_enter Try.func20, Try.ntmps20
  go_wp2_with fail
  refine (toFrac_any x.n x.d _).mono ?_
  rintro e w1 ⟨rfl, hb⟩
  have s0 : w.heap.size + 1 + 1 < w1.heap.size := by have := hb.size; simp at this; omega
  have c0_0 : w1.cell? ⟨w.heap.size, 0, none⟩ = some (.int .i64 k) := (hb.cell (p := ⟨w.heap.size, 0, none⟩) (by first | (simp; done) | (simp; omega))).trans (by go_simp)
  have c0_1 : w1.cell? ⟨w.heap.size, 1, none⟩ = some (.int .i64 x.n) := (hb.cell (p := ⟨w.heap.size, 1, none⟩) (by first | (simp; done) | (simp; omega))).trans (by go_simp)
  have c0_2 : w1.cell? ⟨w.heap.size, 2, none⟩ = some (.int .i64 x.d) := (hb.cell (p := ⟨w.heap.size, 2, none⟩) (by first | (simp; done) | (simp; omega))).trans (by go_simp)
  have c0_3 : w1.cell? ⟨w.heap.size + 1, 0, none⟩ = some (.int .i64 0) := (hb.cell (p := ⟨w.heap.size + 1, 0, none⟩) (by first | (simp; done) | (simp; omega))).trans (by go_simp)
  have c0_4 : w1.cell? ⟨w.heap.size + 1, 1, none⟩ = some (.int .i64 0) := (hb.cell (p := ⟨w.heap.size + 1, 1, none⟩) (by first | (simp; done) | (simp; omega))).trans (by go_simp)
  have c0_5 : w1.cell? ⟨w.heap.size + 1, 2, none⟩ = some (.int .i64 0) := (hb.cell (p := ⟨w.heap.size + 1, 2, none⟩) (by first | (simp; done) | (simp; omega))).trans (by go_simp)
  have c0_6 : w1.cell? ⟨w.heap.size + 1 + 1, 0, none⟩ = some (.int .i64 k) := (hb.cell (p := ⟨w.heap.size + 1 + 1, 0, none⟩) (by first | (simp; done) | (simp; omega))).trans (by go_simp)
  have c0_7 : w1.cell? ⟨w.heap.size + 1 + 1, 1, none⟩ = some (.int .i64 0) := (hb.cell (p := ⟨w.heap.size + 1 + 1, 1, none⟩) (by first | (simp; done) | (simp; omega))).trans (by go_simp)
  have c0_8 : w1.cell? ⟨w.heap.size + 1 + 1, 2, none⟩ = some (.int .i64 0) := (hb.cell (p := ⟨w.heap.size + 1 + 1, 2, none⟩) (by first | (simp; done) | (simp; omega))).trans (by go_simp)
  have f0_0 : w1.frozen? ⟨w.heap.size + 1, 0, none⟩ = false := (hb.frozen (p := ⟨w.heap.size + 1, 0, none⟩) (by first | (simp; done) | (simp; omega))).trans (by go_simp)
  have f0_1 : w1.frozen? ⟨w.heap.size + 1, 1, none⟩ = false := (hb.frozen (p := ⟨w.heap.size + 1, 1, none⟩) (by first | (simp; done) | (simp; omega))).trans (by go_simp)
  have f0_2 : w1.frozen? ⟨w.heap.size + 1, 2, none⟩ = false := (hb.frozen (p := ⟨w.heap.size + 1, 2, none⟩) (by first | (simp; done) | (simp; omega))).trans (by go_simp)
  have f0_3 : w1.frozen? ⟨w.heap.size + 1 + 1, 0, none⟩ = false := (hb.frozen (p := ⟨w.heap.size + 1 + 1, 0, none⟩) (by first | (simp; done) | (simp; omega))).trans (by go_simp)
  have f0_4 : w1.frozen? ⟨w.heap.size + 1 + 1, 1, none⟩ = false := (hb.frozen (p := ⟨w.heap.size + 1 + 1, 1, none⟩) (by first | (simp; done) | (simp; omega))).trans (by go_simp)
  have f0_5 : w1.frozen? ⟨w.heap.size + 1 + 1, 2, none⟩ = false := (hb.frozen (p := ⟨w.heap.size + 1 + 1, 2, none⟩) (by first | (simp; done) | (simp; omega))).trans (by go_simp)
  have HO : Hid (Below w.heap.size w w1) := by refine box_step ?_ hb (by simp <;> omega); go_grown
  clear hb 
  go_wp2
  refine bodyPost_ret (v := .agg #[.int .i64 k, .int .i64 x.n, .int .i64 x.d]) (by simp [results, Try.results20, go_sem, c0_3, c0_4, c0_5] <;> (repeat' (first | rfl | apply And.intro))) rfl ⟨rfl, ?_⟩
  have h := HO.out
  go_grown
set_option maxRecDepth 20000 in
set_option maxHeartbeats 1600000 in
theorem eqMat_same (m : Mx) (w : World) : Calls Try.prog 31 #[.agg #[.int .i64 m.A.n, .int .i64 m.A.d, .int .i64 m.B.n, .int .i64 m.B.d, .int .i64 m.C.n, .int .i64 m.C.d, .int .i64 m.D.n, .int .i64 m.D.d], .agg #[.int .i64 m.A.n, .int .i64 m.A.d, .int .i64 m.B.n, .int .i64 m.B.d, .int .i64 m.C.n, .int .i64 m.C.d, .int .i64 m.D.n, .int .i64 m.D.d]] w fun e w' => e = .returned (.bool true) ∧ Below w.heap.size w w' := by
  go_enter Try.func31, Try.ntmps31
  go_wp2_with fail
  refine (eqFrac_same m.A.n m.A.d _).mono ?_
  rintro e w1 ⟨rfl, hb⟩
  have HO : Hid (Below w.heap.size w w1) := by refine box_step ?_ hb (by simp <;> omega); go_grown
  have X0 : Blk w1 (w.heap.size) #[.int .i64 m.A.n, .int .i64 m.A.d, .int .i64 m.B.n, .int .i64 m.B.d, .int .i64 m.C.n, .int .i64 m.C.d, .int .i64 m.D.n, .int .i64 m.D.d] 27 := Blk.old ((Blk.alloc (Blk.new (by simp)) _)) hb
  have K0 : Hid (w1.cell? ⟨w.heap.size, 0, none⟩ = some (.int .i64 m.A.n)) := X0.cell rfl
  have K1 : Hid (w1.cell? ⟨w.heap.size, 1, none⟩ = some (.int .i64 m.A.d)) := X0.cell rfl
  have K2 : Hid (w1.cell? ⟨w.heap.size, 2, none⟩ = some (.int .i64 m.B.n)) := X0.cell rfl
  have K3 : Hid (w1.cell? ⟨w.heap.size, 3, none⟩ = some (.int .i64 m.B.d)) := X0.cell rfl
  have K4 : Hid (w1.cell? ⟨w.heap.size, 4, none⟩ = some (.int .i64 m.C.n)) := X0.cell rfl
  have K5 : Hid (w1.cell? ⟨w.heap.size, 5, none⟩ = some (.int .i64 m.C.d)) := X0.cell rfl
  have K6 : Hid (w1.cell? ⟨w.heap.size, 6, none⟩ = some (.int .i64 m.D.n)) := X0.cell rfl
  have K7 : Hid (w1.cell? ⟨w.heap.size, 7, none⟩ = some (.int .i64 m.D.d)) := X0.cell rfl
  clear X0
  have X1 : Blk w1 (w.heap.size + 1) #[.int .i64 m.A.n, .int .i64 m.A.d, .int .i64 m.B.n, .int .i64 m.B.d, .int .i64 m.C.n, .int .i64 m.C.d, .int .i64 m.D.n, .int .i64 m.D.d] 27 := Blk.old ((Blk.new (by simp))) hb
  have K8 : Hid (w1.cell? ⟨w.heap.size + 1, 0, none⟩ = some (.int .i64 m.A.n)) := X1.cell rfl
  have K9 : Hid (w1.cell? ⟨w.heap.size + 1, 1, none⟩ = some (.int .i64 m.A.d)) := X1.cell rfl
  have K10 : Hid (w1.cell? ⟨w.heap.size + 1, 2, none⟩ = some (.int .i64 m.B.n)) := X1.cell rfl
  have K11 : Hid (w1.cell? ⟨w.heap.size + 1, 3, none⟩ = some (.int .i64 m.B.d)) := X1.cell rfl
  have K12 : Hid (w1.cell? ⟨w.heap.size + 1, 4, none⟩ = some (.int .i64 m.C.n)) := X1.cell rfl
  have K13 : Hid (w1.cell? ⟨w.heap.size + 1, 5, none⟩ = some (.int .i64 m.C.d)) := X1.cell rfl
  have K14 : Hid (w1.cell? ⟨w.heap.size + 1, 6, none⟩ = some (.int .i64 m.D.n)) := X1.cell rfl
  have K15 : Hid (w1.cell? ⟨w.heap.size + 1, 7, none⟩ = some (.int .i64 m.D.d)) := X1.cell rfl
  clear X1
  clear hb
  have c0 := K0.out
  have c1 := K1.out
  have c2 := K2.out
  have c3 := K3.out
  have c4 := K4.out
  have c5 := K5.out
  have c6 := K6.out
  have c7 := K7.out
  have c8 := K8.out
  have c9 := K9.out
  have c10 := K10.out
  have c11 := K11.out
  have c12 := K12.out
  have c13 := K13.out
  have c14 := K14.out
  have c15 := K15.out
  go_wp2_with fail
  refine (eqFrac_same m.B.n m.B.d _).mono ?_
  rintro e w2 ⟨rfl, hb⟩
  clear c0 c1 c2 c3 c4 c5 c6 c7 c8 c9 c10 c11 c12 c13 c14 c15
  have HO : Hid (Below w.heap.size w w2) := by have h := HO.out; have hs := h.size; refine box_step ?_ hb (by first | exact hs | (simp <;> omega)); go_grown
  have K16 : Hid (w2.cell? ⟨w.heap.size, 0, none⟩ = some (.int .i64 m.A.n)) := kold hb (K0.out)
  have K17 : Hid (w2.cell? ⟨w.heap.size, 1, none⟩ = some (.int .i64 m.A.d)) := kold hb (K1.out)
  have K18 : Hid (w2.cell? ⟨w.heap.size, 2, none⟩ = some (.int .i64 m.B.n)) := kold hb (K2.out)
  have K19 : Hid (w2.cell? ⟨w.heap.size, 3, none⟩ = some (.int .i64 m.B.d)) := kold hb (K3.out)
  have K20 : Hid (w2.cell? ⟨w.heap.size, 4, none⟩ = some (.int .i64 m.C.n)) := kold hb (K4.out)
  have K21 : Hid (w2.cell? ⟨w.heap.size, 5, none⟩ = some (.int .i64 m.C.d)) := kold hb (K5.out)
  have K22 : Hid (w2.cell? ⟨w.heap.size, 6, none⟩ = some (.int .i64 m.D.n)) := kold hb (K6.out)
  have K23 : Hid (w2.cell? ⟨w.heap.size, 7, none⟩ = some (.int .i64 m.D.d)) := kold hb (K7.out)
  have K24 : Hid (w2.cell? ⟨w.heap.size + 1, 0, none⟩ = some (.int .i64 m.A.n)) := kold hb (K8.out)
  have K25 : Hid (w2.cell? ⟨w.heap.size + 1, 1, none⟩ = some (.int .i64 m.A.d)) := kold hb (K9.out)
  have K26 : Hid (w2.cell? ⟨w.heap.size + 1, 2, none⟩ = some (.int .i64 m.B.n)) := kold hb (K10.out)
  have K27 : Hid (w2.cell? ⟨w.heap.size + 1, 3, none⟩ = some (.int .i64 m.B.d)) := kold hb (K11.out)
  have K28 : Hid (w2.cell? ⟨w.heap.size + 1, 4, none⟩ = some (.int .i64 m.C.n)) := kold hb (K12.out)
  have K29 : Hid (w2.cell? ⟨w.heap.size + 1, 5, none⟩ = some (.int .i64 m.C.d)) := kold hb (K13.out)
  have K30 : Hid (w2.cell? ⟨w.heap.size + 1, 6, none⟩ = some (.int .i64 m.D.n)) := kold hb (K14.out)
  have K31 : Hid (w2.cell? ⟨w.heap.size + 1, 7, none⟩ = some (.int .i64 m.D.d)) := kold hb (K15.out)
  clear K0 K1 K2 K3 K4 K5 K6 K7 K8 K9 K10 K11 K12 K13 K14 K15
  clear hb
  have c0 := K16.out
  have c1 := K17.out
  have c2 := K18.out
  have c3 := K19.out
  have c4 := K20.out
  have c5 := K21.out
  have c6 := K22.out
  have c7 := K23.out
  have c8 := K24.out
  have c9 := K25.out
  have c10 := K26.out
  have c11 := K27.out
  have c12 := K28.out
  have c13 := K29.out
  have c14 := K30.out
  have c15 := K31.out
  go_wp2_with fail
  refine (eqFrac_same m.C.n m.C.d _).mono ?_
  rintro e w3 ⟨rfl, hb⟩
  clear c0 c1 c2 c3 c4 c5 c6 c7 c8 c9 c10 c11 c12 c13 c14 c15
  have HO : Hid (Below w.heap.size w w3) := by have h := HO.out; have hs := h.size; refine box_step ?_ hb (by first | exact hs | (simp <;> omega)); go_grown
  have K32 : Hid (w3.cell? ⟨w.heap.size, 0, none⟩ = some (.int .i64 m.A.n)) := kold hb (K16.out)
  have K33 : Hid (w3.cell? ⟨w.heap.size, 1, none⟩ = some (.int .i64 m.A.d)) := kold hb (K17.out)
  have K34 : Hid (w3.cell? ⟨w.heap.size, 2, none⟩ = some (.int .i64 m.B.n)) := kold hb (K18.out)
  have K35 : Hid (w3.cell? ⟨w.heap.size, 3, none⟩ = some (.int .i64 m.B.d)) := kold hb (K19.out)
  have K36 : Hid (w3.cell? ⟨w.heap.size, 4, none⟩ = some (.int .i64 m.C.n)) := kold hb (K20.out)
  have K37 : Hid (w3.cell? ⟨w.heap.size, 5, none⟩ = some (.int .i64 m.C.d)) := kold hb (K21.out)
  have K38 : Hid (w3.cell? ⟨w.heap.size, 6, none⟩ = some (.int .i64 m.D.n)) := kold hb (K22.out)
  have K39 : Hid (w3.cell? ⟨w.heap.size, 7, none⟩ = some (.int .i64 m.D.d)) := kold hb (K23.out)
  have K40 : Hid (w3.cell? ⟨w.heap.size + 1, 0, none⟩ = some (.int .i64 m.A.n)) := kold hb (K24.out)
  have K41 : Hid (w3.cell? ⟨w.heap.size + 1, 1, none⟩ = some (.int .i64 m.A.d)) := kold hb (K25.out)
  have K42 : Hid (w3.cell? ⟨w.heap.size + 1, 2, none⟩ = some (.int .i64 m.B.n)) := kold hb (K26.out)
  have K43 : Hid (w3.cell? ⟨w.heap.size + 1, 3, none⟩ = some (.int .i64 m.B.d)) := kold hb (K27.out)
  have K44 : Hid (w3.cell? ⟨w.heap.size + 1, 4, none⟩ = some (.int .i64 m.C.n)) := kold hb (K28.out)
  have K45 : Hid (w3.cell? ⟨w.heap.size + 1, 5, none⟩ = some (.int .i64 m.C.d)) := kold hb (K29.out)
  have K46 : Hid (w3.cell? ⟨w.heap.size + 1, 6, none⟩ = some (.int .i64 m.D.n)) := kold hb (K30.out)
  have K47 : Hid (w3.cell? ⟨w.heap.size + 1, 7, none⟩ = some (.int .i64 m.D.d)) := kold hb (K31.out)
  clear K16 K17 K18 K19 K20 K21 K22 K23 K24 K25 K26 K27 K28 K29 K30 K31
  clear hb
  have c0 := K32.out
  have c1 := K33.out
  have c2 := K34.out
  have c3 := K35.out
  have c4 := K36.out
  have c5 := K37.out
  have c6 := K38.out
  have c7 := K39.out
  have c8 := K40.out
  have c9 := K41.out
  have c10 := K42.out
  have c11 := K43.out
  have c12 := K44.out
  have c13 := K45.out
  have c14 := K46.out
  have c15 := K47.out
  go_wp2_with fail
  refine (eqFrac_same m.D.n m.D.d _).mono ?_
  rintro e w4 ⟨rfl, hb⟩
  clear c0 c1 c2 c3 c4 c5 c6 c7 c8 c9 c10 c11 c12 c13 c14 c15
  have HO : Hid (Below w.heap.size w w4) := by have h := HO.out; have hs := h.size; refine box_step ?_ hb (by first | exact hs | (simp <;> omega)); go_grown
  have K48 : Hid (w4.cell? ⟨w.heap.size, 0, none⟩ = some (.int .i64 m.A.n)) := kold hb (K32.out)
  have K49 : Hid (w4.cell? ⟨w.heap.size, 1, none⟩ = some (.int .i64 m.A.d)) := kold hb (K33.out)
  have K50 : Hid (w4.cell? ⟨w.heap.size, 2, none⟩ = some (.int .i64 m.B.n)) := kold hb (K34.out)
  have K51 : Hid (w4.cell? ⟨w.heap.size, 3, none⟩ = some (.int .i64 m.B.d)) := kold hb (K35.out)
  have K52 : Hid (w4.cell? ⟨w.heap.size, 4, none⟩ = some (.int .i64 m.C.n)) := kold hb (K36.out)
  have K53 : Hid (w4.cell? ⟨w.heap.size, 5, none⟩ = some (.int .i64 m.C.d)) := kold hb (K37.out)
  have K54 : Hid (w4.cell? ⟨w.heap.size, 6, none⟩ = some (.int .i64 m.D.n)) := kold hb (K38.out)
  have K55 : Hid (w4.cell? ⟨w.heap.size, 7, none⟩ = some (.int .i64 m.D.d)) := kold hb (K39.out)
  have K56 : Hid (w4.cell? ⟨w.heap.size + 1, 0, none⟩ = some (.int .i64 m.A.n)) := kold hb (K40.out)
  have K57 : Hid (w4.cell? ⟨w.heap.size + 1, 1, none⟩ = some (.int .i64 m.A.d)) := kold hb (K41.out)
  have K58 : Hid (w4.cell? ⟨w.heap.size + 1, 2, none⟩ = some (.int .i64 m.B.n)) := kold hb (K42.out)
  have K59 : Hid (w4.cell? ⟨w.heap.size + 1, 3, none⟩ = some (.int .i64 m.B.d)) := kold hb (K43.out)
  have K60 : Hid (w4.cell? ⟨w.heap.size + 1, 4, none⟩ = some (.int .i64 m.C.n)) := kold hb (K44.out)
  have K61 : Hid (w4.cell? ⟨w.heap.size + 1, 5, none⟩ = some (.int .i64 m.C.d)) := kold hb (K45.out)
  have K62 : Hid (w4.cell? ⟨w.heap.size + 1, 6, none⟩ = some (.int .i64 m.D.n)) := kold hb (K46.out)
  have K63 : Hid (w4.cell? ⟨w.heap.size + 1, 7, none⟩ = some (.int .i64 m.D.d)) := kold hb (K47.out)
  clear K32 K33 K34 K35 K36 K37 K38 K39 K40 K41 K42 K43 K44 K45 K46 K47
  clear hb
  go_wp2
  go_ret
  refine ⟨by first | rfl | simp, ?_⟩
  have h := HO.out
  have hsz := h.size
  go_grown
set_option maxRecDepth 20000 in
set_option maxHeartbeats 1600000 in
theorem eqMatRes_same (c : Int) (m : Mx) (w : World) : Calls Try.prog 25 #[.agg #[.int .i64 c, .int .i64 m.A.n, .int .i64 m.A.d, .int .i64 m.B.n, .int .i64 m.B.d, .int .i64 m.C.n, .int .i64 m.C.d, .int .i64 m.D.n, .int .i64 m.D.d], .agg #[.int .i64 c, .int .i64 m.A.n, .int .i64 m.A.d, .int .i64 m.B.n, .int .i64 m.B.d, .int .i64 m.C.n, .int .i64 m.C.d, .int .i64 m.D.n, .int .i64 m.D.d]] w fun e w' => e = .returned (.bool true) ∧ Below w.heap.size w w' := by
  go_enter Try.func25, Try.ntmps25
  go_wp2_with fail
  refine (eqMat_same m _).mono ?_
  rintro e w1 ⟨rfl, hb⟩
  have HO : Hid (Below w.heap.size w w1) := by refine box_step ?_ hb (by simp <;> omega); go_grown
  have X0 : Blk w1 (w.heap.size) #[.int .i64 c, .int .i64 m.A.n, .int .i64 m.A.d, .int .i64 m.B.n, .int .i64 m.B.d, .int .i64 m.C.n, .int .i64 m.C.d, .int .i64 m.D.n, .int .i64 m.D.d] 37 := Blk.old ((Blk.alloc (Blk.new (by simp)) _)) hb
  have K0 : Hid (w1.cell? ⟨w.heap.size, 0, none⟩ = some (.int .i64 c)) := X0.cell rfl
  have K1 : Hid (w1.cell? ⟨w.heap.size, 1, none⟩ = some (.int .i64 m.A.n)) := X0.cell rfl
  have K2 : Hid (w1.cell? ⟨w.heap.size, 2, none⟩ = some (.int .i64 m.A.d)) := X0.cell rfl
  have K3 : Hid (w1.cell? ⟨w.heap.size, 3, none⟩ = some (.int .i64 m.B.n)) := X0.cell rfl
  have K4 : Hid (w1.cell? ⟨w.heap.size, 4, none⟩ = some (.int .i64 m.B.d)) := X0.cell rfl
  have K5 : Hid (w1.cell? ⟨w.heap.size, 5, none⟩ = some (.int .i64 m.C.n)) := X0.cell rfl
  have K6 : Hid (w1.cell? ⟨w.heap.size, 6, none⟩ = some (.int .i64 m.C.d)) := X0.cell rfl
  have K7 : Hid (w1.cell? ⟨w.heap.size, 7, none⟩ = some (.int .i64 m.D.n)) := X0.cell rfl
  have K8 : Hid (w1.cell? ⟨w.heap.size, 8, none⟩ = some (.int .i64 m.D.d)) := X0.cell rfl
  clear X0
  have X1 : Blk w1 (w.heap.size + 1) #[.int .i64 c, .int .i64 m.A.n, .int .i64 m.A.d, .int .i64 m.B.n, .int .i64 m.B.d, .int .i64 m.C.n, .int .i64 m.C.d, .int .i64 m.D.n, .int .i64 m.D.d] 37 := Blk.old ((Blk.new (by simp))) hb
  have K9 : Hid (w1.cell? ⟨w.heap.size + 1, 0, none⟩ = some (.int .i64 c)) := X1.cell rfl
  have K10 : Hid (w1.cell? ⟨w.heap.size + 1, 1, none⟩ = some (.int .i64 m.A.n)) := X1.cell rfl
  have K11 : Hid (w1.cell? ⟨w.heap.size + 1, 2, none⟩ = some (.int .i64 m.A.d)) := X1.cell rfl
  have K12 : Hid (w1.cell? ⟨w.heap.size + 1, 3, none⟩ = some (.int .i64 m.B.n)) := X1.cell rfl
  have K13 : Hid (w1.cell? ⟨w.heap.size + 1, 4, none⟩ = some (.int .i64 m.B.d)) := X1.cell rfl
  have K14 : Hid (w1.cell? ⟨w.heap.size + 1, 5, none⟩ = some (.int .i64 m.C.n)) := X1.cell rfl
  have K15 : Hid (w1.cell? ⟨w.heap.size + 1, 6, none⟩ = some (.int .i64 m.C.d)) := X1.cell rfl
  have K16 : Hid (w1.cell? ⟨w.heap.size + 1, 7, none⟩ = some (.int .i64 m.D.n)) := X1.cell rfl
  have K17 : Hid (w1.cell? ⟨w.heap.size + 1, 8, none⟩ = some (.int .i64 m.D.d)) := X1.cell rfl
  clear X1
  clear hb
  go_wp2
  go_ret
  refine ⟨by first | rfl | simp, ?_⟩
  have h := HO.out
  have hsz := h.size
  go_grown
set_option maxRecDepth 20000 in
set_option maxHeartbeats 1600000 in
theorem eqFoci_same (c : Int) (x y z : Q) (w : World) : Calls Try.prog 46 #[.agg #[.int .i64 c, .int .i64 x.n, .int .i64 x.d, .int .i64 y.n, .int .i64 y.d, .int .i64 z.n, .int .i64 z.d], .agg #[.int .i64 c, .int .i64 x.n, .int .i64 x.d, .int .i64 y.n, .int .i64 y.d, .int .i64 z.n, .int .i64 z.d]] w fun e w' => e = .returned (.bool true) ∧ Below w.heap.size w w' := by
  go_enter Try.func46, Try.ntmps46
  go_wp2_with fail
  refine (eqFrac_same x.n x.d _).mono ?_
  rintro e w1 ⟨rfl, hb⟩
  have HO : Hid (Below w.heap.size w w1) := by refine box_step ?_ hb (by simp <;> omega); go_grown
  have X0 : Blk w1 (w.heap.size) #[.int .i64 c, .int .i64 x.n, .int .i64 x.d, .int .i64 y.n, .int .i64 y.d, .int .i64 z.n, .int .i64 z.d] 79 := Blk.old ((Blk.alloc (Blk.new (by simp)) _)) hb
  have K0 : Hid (w1.cell? ⟨w.heap.size, 0, none⟩ = some (.int .i64 c)) := X0.cell rfl
  have K1 : Hid (w1.cell? ⟨w.heap.size, 1, none⟩ = some (.int .i64 x.n)) := X0.cell rfl
  have K2 : Hid (w1.cell? ⟨w.heap.size, 2, none⟩ = some (.int .i64 x.d)) := X0.cell rfl
  have K3 : Hid (w1.cell? ⟨w.heap.size, 3, none⟩ = some (.int .i64 y.n)) := X0.cell rfl
  have K4 : Hid (w1.cell? ⟨w.heap.size, 4, none⟩ = some (.int .i64 y.d)) := X0.cell rfl
  have K5 : Hid (w1.cell? ⟨w.heap.size, 5, none⟩ = some (.int .i64 z.n)) := X0.cell rfl
  have K6 : Hid (w1.cell? ⟨w.heap.size, 6, none⟩ = some (.int .i64 z.d)) := X0.cell rfl
  clear X0
  have X1 : Blk w1 (w.heap.size + 1) #[.int .i64 c, .int .i64 x.n, .int .i64 x.d, .int .i64 y.n, .int .i64 y.d, .int .i64 z.n, .int .i64 z.d] 79 := Blk.old ((Blk.new (by simp))) hb
  have K7 : Hid (w1.cell? ⟨w.heap.size + 1, 0, none⟩ = some (.int .i64 c)) := X1.cell rfl
  have K8 : Hid (w1.cell? ⟨w.heap.size + 1, 1, none⟩ = some (.int .i64 x.n)) := X1.cell rfl
  have K9 : Hid (w1.cell? ⟨w.heap.size + 1, 2, none⟩ = some (.int .i64 x.d)) := X1.cell rfl
  have K10 : Hid (w1.cell? ⟨w.heap.size + 1, 3, none⟩ = some (.int .i64 y.n)) := X1.cell rfl
  have K11 : Hid (w1.cell? ⟨w.heap.size + 1, 4, none⟩ = some (.int .i64 y.d)) := X1.cell rfl
  have K12 : Hid (w1.cell? ⟨w.heap.size + 1, 5, none⟩ = some (.int .i64 z.n)) := X1.cell rfl
  have K13 : Hid (w1.cell? ⟨w.heap.size + 1, 6, none⟩ = some (.int .i64 z.d)) := X1.cell rfl
  clear X1
  clear hb
  have c0 := K0.out
  have c1 := K1.out
  have c2 := K2.out
  have c3 := K3.out
  have c4 := K4.out
  have c5 := K5.out
  have c6 := K6.out
  have c7 := K7.out
  have c8 := K8.out
  have c9 := K9.out
  have c10 := K10.out
  have c11 := K11.out
  have c12 := K12.out
  have c13 := K13.out
  go_wp2_with fail
  refine (eqFrac_same y.n y.d _).mono ?_
  rintro e w2 ⟨rfl, hb⟩
  clear c0 c1 c2 c3 c4 c5 c6 c7 c8 c9 c10 c11 c12 c13
  have HO : Hid (Below w.heap.size w w2) := by have h := HO.out; have hs := h.size; refine box_step ?_ hb (by first | exact hs | (simp <;> omega)); go_grown
  have K14 : Hid (w2.cell? ⟨w.heap.size, 0, none⟩ = some (.int .i64 c)) := kold hb (K0.out)
  have K15 : Hid (w2.cell? ⟨w.heap.size, 1, none⟩ = some (.int .i64 x.n)) := kold hb (K1.out)
  have K16 : Hid (w2.cell? ⟨w.heap.size, 2, none⟩ = some (.int .i64 x.d)) := kold hb (K2.out)
  have K17 : Hid (w2.cell? ⟨w.heap.size, 3, none⟩ = some (.int .i64 y.n)) := kold hb (K3.out)
  have K18 : Hid (w2.cell? ⟨w.heap.size, 4, none⟩ = some (.int .i64 y.d)) := kold hb (K4.out)
  have K19 : Hid (w2.cell? ⟨w.heap.size, 5, none⟩ = some (.int .i64 z.n)) := kold hb (K5.out)
  have K20 : Hid (w2.cell? ⟨w.heap.size, 6, none⟩ = some (.int .i64 z.d)) := kold hb (K6.out)
  have K21 : Hid (w2.cell? ⟨w.heap.size + 1, 0, none⟩ = some (.int .i64 c)) := kold hb (K7.out)
  have K22 : Hid (w2.cell? ⟨w.heap.size + 1, 1, none⟩ = some (.int .i64 x.n)) := kold hb (K8.out)
  have K23 : Hid (w2.cell? ⟨w.heap.size + 1, 2, none⟩ = some (.int .i64 x.d)) := kold hb (K9.out)
  have K24 : Hid (w2.cell? ⟨w.heap.size + 1, 3, none⟩ = some (.int .i64 y.n)) := kold hb (K10.out)
  have K25 : Hid (w2.cell? ⟨w.heap.size + 1, 4, none⟩ = some (.int .i64 y.d)) := kold hb (K11.out)
  have K26 : Hid (w2.cell? ⟨w.heap.size + 1, 5, none⟩ = some (.int .i64 z.n)) := kold hb (K12.out)
  have K27 : Hid (w2.cell? ⟨w.heap.size + 1, 6, none⟩ = some (.int .i64 z.d)) := kold hb (K13.out)
  clear K0 K1 K2 K3 K4 K5 K6 K7 K8 K9 K10 K11 K12 K13
  clear hb
  have c0 := K14.out
  have c1 := K15.out
  have c2 := K16.out
  have c3 := K17.out
  have c4 := K18.out
  have c5 := K19.out
  have c6 := K20.out
  have c7 := K21.out
  have c8 := K22.out
  have c9 := K23.out
  have c10 := K24.out
  have c11 := K25.out
  have c12 := K26.out
  have c13 := K27.out
  go_wp2_with fail
  refine (eqFrac_same z.n z.d _).mono ?_
  rintro e w3 ⟨rfl, hb⟩
  clear c0 c1 c2 c3 c4 c5 c6 c7 c8 c9 c10 c11 c12 c13
  have HO : Hid (Below w.heap.size w w3) := by have h := HO.out; have hs := h.size; refine box_step ?_ hb (by first | exact hs | (simp <;> omega)); go_grown
  have K28 : Hid (w3.cell? ⟨w.heap.size, 0, none⟩ = some (.int .i64 c)) := kold hb (K14.out)
  have K29 : Hid (w3.cell? ⟨w.heap.size, 1, none⟩ = some (.int .i64 x.n)) := kold hb (K15.out)
  have K30 : Hid (w3.cell? ⟨w.heap.size, 2, none⟩ = some (.int .i64 x.d)) := kold hb (K16.out)
  have K31 : Hid (w3.cell? ⟨w.heap.size, 3, none⟩ = some (.int .i64 y.n)) := kold hb (K17.out)
  have K32 : Hid (w3.cell? ⟨w.heap.size, 4, none⟩ = some (.int .i64 y.d)) := kold hb (K18.out)
  have K33 : Hid (w3.cell? ⟨w.heap.size, 5, none⟩ = some (.int .i64 z.n)) := kold hb (K19.out)
  have K34 : Hid (w3.cell? ⟨w.heap.size, 6, none⟩ = some (.int .i64 z.d)) := kold hb (K20.out)
  have K35 : Hid (w3.cell? ⟨w.heap.size + 1, 0, none⟩ = some (.int .i64 c)) := kold hb (K21.out)
  have K36 : Hid (w3.cell? ⟨w.heap.size + 1, 1, none⟩ = some (.int .i64 x.n)) := kold hb (K22.out)
  have K37 : Hid (w3.cell? ⟨w.heap.size + 1, 2, none⟩ = some (.int .i64 x.d)) := kold hb (K23.out)
  have K38 : Hid (w3.cell? ⟨w.heap.size + 1, 3, none⟩ = some (.int .i64 y.n)) := kold hb (K24.out)
  have K39 : Hid (w3.cell? ⟨w.heap.size + 1, 4, none⟩ = some (.int .i64 y.d)) := kold hb (K25.out)
  have K40 : Hid (w3.cell? ⟨w.heap.size + 1, 5, none⟩ = some (.int .i64 z.n)) := kold hb (K26.out)
  have K41 : Hid (w3.cell? ⟨w.heap.size + 1, 6, none⟩ = some (.int .i64 z.d)) := kold hb (K27.out)
  clear K14 K15 K16 K17 K18 K19 K20 K21 K22 K23 K24 K25 K26 K27
  clear hb
  go_wp2
  go_ret
  refine ⟨by first | rfl | simp, ?_⟩
  have h := HO.out
  have hsz := h.size
  go_grown
set_option maxRecDepth 20000 in
set_option maxHeartbeats 1600000 in
theorem eqImage_same (c : Int) (x y : Q) (w : World) : Calls Try.prog 48 #[.agg #[.int .i64 c, .int .i64 x.n, .int .i64 x.d, .int .i64 y.n, .int .i64 y.d], .agg #[.int .i64 c, .int .i64 x.n, .int .i64 x.d, .int .i64 y.n, .int .i64 y.d]] w fun e w' => e = .returned (.bool true) ∧ Below w.heap.size w w' := by
  go_enter Try.func48, Try.ntmps48
  go_wp2_with fail
  refine (eqFrac_same x.n x.d _).mono ?_
  rintro e w1 ⟨rfl, hb⟩
  have HO : Hid (Below w.heap.size w w1) := by refine box_step ?_ hb (by simp <;> omega); go_grown
  have X0 : Blk w1 (w.heap.size) #[.int .i64 c, .int .i64 x.n, .int .i64 x.d, .int .i64 y.n, .int .i64 y.d] 31 := Blk.old ((Blk.alloc (Blk.new (by simp)) _)) hb
  have K0 : Hid (w1.cell? ⟨w.heap.size, 0, none⟩ = some (.int .i64 c)) := X0.cell rfl
  have K1 : Hid (w1.cell? ⟨w.heap.size, 1, none⟩ = some (.int .i64 x.n)) := X0.cell rfl
  have K2 : Hid (w1.cell? ⟨w.heap.size, 2, none⟩ = some (.int .i64 x.d)) := X0.cell rfl
  have K3 : Hid (w1.cell? ⟨w.heap.size, 3, none⟩ = some (.int .i64 y.n)) := X0.cell rfl
  have K4 : Hid (w1.cell? ⟨w.heap.size, 4, none⟩ = some (.int .i64 y.d)) := X0.cell rfl
  clear X0
  have X1 : Blk w1 (w.heap.size + 1) #[.int .i64 c, .int .i64 x.n, .int .i64 x.d, .int .i64 y.n, .int .i64 y.d] 31 := Blk.old ((Blk.new (by simp))) hb
  have K5 : Hid (w1.cell? ⟨w.heap.size + 1, 0, none⟩ = some (.int .i64 c)) := X1.cell rfl
  have K6 : Hid (w1.cell? ⟨w.heap.size + 1, 1, none⟩ = some (.int .i64 x.n)) := X1.cell rfl
  have K7 : Hid (w1.cell? ⟨w.heap.size + 1, 2, none⟩ = some (.int .i64 x.d)) := X1.cell rfl
  have K8 : Hid (w1.cell? ⟨w.heap.size + 1, 3, none⟩ = some (.int .i64 y.n)) := X1.cell rfl
  have K9 : Hid (w1.cell? ⟨w.heap.size + 1, 4, none⟩ = some (.int .i64 y.d)) := X1.cell rfl
  clear X1
  clear hb
  have c0 := K0.out
  have c1 := K1.out
  have c2 := K2.out
  have c3 := K3.out
  have c4 := K4.out
  have c5 := K5.out
  have c6 := K6.out
  have c7 := K7.out
  have c8 := K8.out
  have c9 := K9.out
  go_wp2_with fail
  refine (eqFrac_same y.n y.d _).mono ?_
  rintro e w2 ⟨rfl, hb⟩
  clear c0 c1 c2 c3 c4 c5 c6 c7 c8 c9
  have HO : Hid (Below w.heap.size w w2) := by have h := HO.out; have hs := h.size; refine box_step ?_ hb (by first | exact hs | (simp <;> omega)); go_grown
  have K10 : Hid (w2.cell? ⟨w.heap.size, 0, none⟩ = some (.int .i64 c)) := kold hb (K0.out)
  have K11 : Hid (w2.cell? ⟨w.heap.size, 1, none⟩ = some (.int .i64 x.n)) := kold hb (K1.out)
  have K12 : Hid (w2.cell? ⟨w.heap.size, 2, none⟩ = some (.int .i64 x.d)) := kold hb (K2.out)
  have K13 : Hid (w2.cell? ⟨w.heap.size, 3, none⟩ = some (.int .i64 y.n)) := kold hb (K3.out)
  have K14 : Hid (w2.cell? ⟨w.heap.size, 4, none⟩ = some (.int .i64 y.d)) := kold hb (K4.out)
  have K15 : Hid (w2.cell? ⟨w.heap.size + 1, 0, none⟩ = some (.int .i64 c)) := kold hb (K5.out)
  have K16 : Hid (w2.cell? ⟨w.heap.size + 1, 1, none⟩ = some (.int .i64 x.n)) := kold hb (K6.out)
  have K17 : Hid (w2.cell? ⟨w.heap.size + 1, 2, none⟩ = some (.int .i64 x.d)) := kold hb (K7.out)
  have K18 : Hid (w2.cell? ⟨w.heap.size + 1, 3, none⟩ = some (.int .i64 y.n)) := kold hb (K8.out)
  have K19 : Hid (w2.cell? ⟨w.heap.size + 1, 4, none⟩ = some (.int .i64 y.d)) := kold hb (K9.out)
  clear K0 K1 K2 K3 K4 K5 K6 K7 K8 K9
  clear hb
  go_wp2
  go_ret
  refine ⟨by first | rfl | simp, ?_⟩
  have h := HO.out
  have hsz := h.size
  go_grown
/-- What is wrong with a part. -/
def pfault (k : Int) (x : Q) : Int := if k = 1 ∨ k = 2 then fault x.n x.d else 1
set_option maxRecDepth 20000 in
set_option maxHeartbeats 1600000 in
theorem spfault_0 (k : Int) (x : Q) (w : World) (h1 : (k != 1) = false) : Calls Try.prog 19 #[.agg #[.int .i64 k, .int .i64 x.n, .int .i64 x.d]] w fun e w' => e = .returned (.int .i64 (fault x.n x.d)) ∧ Below w.heap.size w w' := by
  go_enter Try.func19, Try.ntmps19
  go_wp2_with fail
  refine (sfaultq x _).mono ?_
  rintro e w1 ⟨rfl, hb⟩
  have HO : Hid (Below w.heap.size w w1) := by refine box_step ?_ hb (by simp <;> omega); go_grown
  have X0 : Blk w1 (w.heap.size) #[.int .i64 k, .int .i64 x.n, .int .i64 x.d] 34 := Blk.old ((Blk.new (by simp))) hb
  have K0 : Hid (w1.cell? ⟨w.heap.size, 0, none⟩ = some (.int .i64 k)) := X0.cell rfl
  have K1 : Hid (w1.cell? ⟨w.heap.size, 1, none⟩ = some (.int .i64 x.n)) := X0.cell rfl
  have K2 : Hid (w1.cell? ⟨w.heap.size, 2, none⟩ = some (.int .i64 x.d)) := X0.cell rfl
  clear X0
  clear hb
  go_wp2
  go_ret
  refine ⟨by first | rfl | simp, ?_⟩
  have h := HO.out
  have hsz := h.size
  go_grown
set_option maxRecDepth 20000 in
set_option maxHeartbeats 1600000 in
theorem spfault_1 (k : Int) (x : Q) (w : World) (h1 : (k != 1) = true) (h2 : (k != 2) = false) : Calls Try.prog 19 #[.agg #[.int .i64 k, .int .i64 x.n, .int .i64 x.d]] w fun e w' => e = .returned (.int .i64 (fault x.n x.d)) ∧ Below w.heap.size w w' := by
  go_enter Try.func19, Try.ntmps19
  go_wp2_with fail
  refine (sfaultq x _).mono ?_
  rintro e w1 ⟨rfl, hb⟩
  have HO : Hid (Below w.heap.size w w1) := by refine box_step ?_ hb (by simp <;> omega); go_grown
  have X0 : Blk w1 (w.heap.size) #[.int .i64 k, .int .i64 x.n, .int .i64 x.d] 34 := Blk.old ((Blk.new (by simp))) hb
  have K0 : Hid (w1.cell? ⟨w.heap.size, 0, none⟩ = some (.int .i64 k)) := X0.cell rfl
  have K1 : Hid (w1.cell? ⟨w.heap.size, 1, none⟩ = some (.int .i64 x.n)) := X0.cell rfl
  have K2 : Hid (w1.cell? ⟨w.heap.size, 2, none⟩ = some (.int .i64 x.d)) := X0.cell rfl
  clear X0
  clear hb
  go_wp2
  go_ret
  refine ⟨by first | rfl | simp, ?_⟩
  have h := HO.out
  have hsz := h.size
  go_grown
set_option maxHeartbeats 400000 in
theorem spfault_2 (k : Int) (x : Q) (w : World) (h1 : (k != 1) = true) (h2 : (k != 2) = true) : Calls Try.prog 19 #[.agg #[.int .i64 k, .int .i64 x.n, .int .i64 x.d]] w fun e w' => e = .returned (.int .i64 1) ∧ Below w.heap.size w w' := by
  go_enter Try.func19, Try.ntmps19
  go_wp2
  go_ret
  exact ⟨rfl, (Below.refl _ _).alloc (Nat.le_refl _) _⟩
theorem spfault (k : Int) (x : Q) (w : World) : Calls Try.prog 19 #[.agg #[.int .i64 k, .int .i64 x.n, .int .i64 x.d]] w fun e w' => e = .returned (.int .i64 (pfault k x)) ∧ Below w.heap.size w w' := by
  unfold pfault
  by_cases h1 : k = 1
  · rw [if_pos (Or.inl h1)]; exact spfault_0 k x w (by simpa using h1)
  by_cases h2 : k = 2
  · rw [if_pos (Or.inr h2)]; exact spfault_1 k x w (by simpa using h1) (by simpa using h2)
  · rw [if_neg (by omega)]; exact spfault_2 k x w (by simpa using h1) (by simpa using h2)
set_option maxRecDepth 20000 in
set_option maxHeartbeats 1600000 in
theorem ipfault_0 (k : Int) (x : Q) (w : World) (h1 : (k != 1) = false) : Calls Try.prog 21 #[.agg #[.int .i64 k, .int .i64 x.n, .int .i64 x.d]] w fun e w' => e = .returned (.int .i64 (fault x.n x.d)) ∧ Below w.heap.size w w' := by
  go_enter Try.func21, Try.ntmps21
  go_wp2_with fail
  refine (ifaultq x _).mono ?_
  rintro e w1 ⟨rfl, hb⟩
  have HO : Hid (Below w.heap.size w w1) := by refine box_step ?_ hb (by simp <;> omega); go_grown
  have X0 : Blk w1 (w.heap.size) #[.int .i64 k, .int .i64 x.n, .int .i64 x.d] 34 := Blk.old ((Blk.new (by simp))) hb
  have K0 : Hid (w1.cell? ⟨w.heap.size, 0, none⟩ = some (.int .i64 k)) := X0.cell rfl
  have K1 : Hid (w1.cell? ⟨w.heap.size, 1, none⟩ = some (.int .i64 x.n)) := X0.cell rfl
  have K2 : Hid (w1.cell? ⟨w.heap.size, 2, none⟩ = some (.int .i64 x.d)) := X0.cell rfl
  clear X0
  clear hb
  go_wp2
  go_ret
  refine ⟨by first | rfl | simp, ?_⟩
  have h := HO.out
  have hsz := h.size
  go_grown
set_option maxRecDepth 20000 in
set_option maxHeartbeats 1600000 in
theorem ipfault_1 (k : Int) (x : Q) (w : World) (h1 : (k != 1) = true) (h2 : (k != 2) = false) : Calls Try.prog 21 #[.agg #[.int .i64 k, .int .i64 x.n, .int .i64 x.d]] w fun e w' => e = .returned (.int .i64 (fault x.n x.d)) ∧ Below w.heap.size w w' := by
  go_enter Try.func21, Try.ntmps21
  go_wp2_with fail
  refine (ifaultq x _).mono ?_
  rintro e w1 ⟨rfl, hb⟩
  have HO : Hid (Below w.heap.size w w1) := by refine box_step ?_ hb (by simp <;> omega); go_grown
  have X0 : Blk w1 (w.heap.size) #[.int .i64 k, .int .i64 x.n, .int .i64 x.d] 34 := Blk.old ((Blk.new (by simp))) hb
  have K0 : Hid (w1.cell? ⟨w.heap.size, 0, none⟩ = some (.int .i64 k)) := X0.cell rfl
  have K1 : Hid (w1.cell? ⟨w.heap.size, 1, none⟩ = some (.int .i64 x.n)) := X0.cell rfl
  have K2 : Hid (w1.cell? ⟨w.heap.size, 2, none⟩ = some (.int .i64 x.d)) := X0.cell rfl
  clear X0
  clear hb
  go_wp2
  go_ret
  refine ⟨by first | rfl | simp, ?_⟩
  have h := HO.out
  have hsz := h.size
  go_grown
set_option maxHeartbeats 400000 in
theorem ipfault_2 (k : Int) (x : Q) (w : World) (h1 : (k != 1) = true) (h2 : (k != 2) = true) : Calls Try.prog 21 #[.agg #[.int .i64 k, .int .i64 x.n, .int .i64 x.d]] w fun e w' => e = .returned (.int .i64 1) ∧ Below w.heap.size w w' := by
  go_enter Try.func21, Try.ntmps21
  go_wp2
  go_ret
  exact ⟨rfl, (Below.refl _ _).alloc (Nat.le_refl _) _⟩
theorem ipfault (k : Int) (x : Q) (w : World) : Calls Try.prog 21 #[.agg #[.int .i64 k, .int .i64 x.n, .int .i64 x.d]] w fun e w' => e = .returned (.int .i64 (pfault k x)) ∧ Below w.heap.size w w' := by
  unfold pfault
  by_cases h1 : k = 1
  · rw [if_pos (Or.inl h1)]; exact ipfault_0 k x w (by simpa using h1)
  by_cases h2 : k = 2
  · rw [if_pos (Or.inr h2)]; exact ipfault_1 k x w (by simpa using h1) (by simpa using h2)
  · rw [if_neg (by omega)]; exact ipfault_2 k x w (by simpa using h1) (by simpa using h2)
set_option maxRecDepth 20000 in
set_option maxHeartbeats 800000 in
theorem sswap (m : Mx) (w : World) : Calls Try.prog 29 #[.agg #[.int .i64 m.A.n, .int .i64 m.A.d, .int .i64 m.B.n, .int .i64 m.B.d, .int .i64 m.C.n, .int .i64 m.C.d, .int .i64 m.D.n, .int .i64 m.D.d]] w fun e w' => e = .returned (.agg #[.int .i64 m.D.n, .int .i64 m.D.d, .int .i64 m.B.n, .int .i64 m.B.d, .int .i64 m.C.n, .int .i64 m.C.d, .int .i64 m.A.n, .int .i64 m.A.d]) ∧ Below w.heap.size w w' := by
  go_enter Try.func29, Try.ntmps29
  go_wp2
  refine bodyPost_ret (v := .agg #[.int .i64 m.D.n, .int .i64 m.D.d, .int .i64 m.B.n, .int .i64 m.B.d, .int .i64 m.C.n, .int .i64 m.C.d, .int .i64 m.A.n, .int .i64 m.A.d]) (by simp [results, Try.results29, go_sem] <;> (repeat' (first | rfl | apply And.intro))) rfl ⟨rfl, ?_⟩
  go_grown
set_option maxRecDepth 20000 in
set_option maxHeartbeats 800000 in
theorem iswap (m : Mx) (w : World) : Calls Try.prog 30 #[.agg #[.int .i64 m.A.n, .int .i64 m.A.d, .int .i64 m.B.n, .int .i64 m.B.d, .int .i64 m.C.n, .int .i64 m.C.d, .int .i64 m.D.n, .int .i64 m.D.d]] w fun e w' => e = .returned (.agg #[.int .i64 m.D.n, .int .i64 m.D.d, .int .i64 m.B.n, .int .i64 m.B.d, .int .i64 m.C.n, .int .i64 m.C.d, .int .i64 m.A.n, .int .i64 m.A.d]) ∧ Below w.heap.size w w' := by
  go_enter Try.func30, Try.ntmps30
  go_wp2
  refine bodyPost_ret (v := .agg #[.int .i64 m.D.n, .int .i64 m.D.d, .int .i64 m.B.n, .int .i64 m.B.d, .int .i64 m.C.n, .int .i64 m.C.d, .int .i64 m.A.n, .int .i64 m.A.d]) (by simp [results, Try.results30, go_sem] <;> (repeat' (first | rfl | apply And.intro))) rfl ⟨rfl, ?_⟩
  go_grown
end Go.Proofs.Ytnikgmjjkdhjbaa
