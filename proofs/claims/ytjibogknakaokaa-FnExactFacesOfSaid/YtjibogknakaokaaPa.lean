/- Plain surfaces: the laws' own copies, counts and comparisons of lists of them. -/
import Derived.Test.YtjibogknakaokaaFq
import Derived.Test.YtjibogknakaokaaVr
import Derived.Handy
import Derived.Deep.RegionHeld3
namespace Go.Proofs.Ytjibogknakaokaa
open Go.RowKit
set_option linter.unusedVariables false
set_option linter.unusedSimpArgs false
/-- A plain surface: curve, gap, index, semi, conic, stop. -/
structure Ps where
  c : Q
  g : Q
  x : Q
  s : Q
  k : Q
  t : Bool
def pcell (g : Ps) : Nat → Value
  | 0 => .int .i64 g.c.n
  | 1 => .int .i64 g.c.d
  | 2 => .int .i64 g.g.n
  | 3 => .int .i64 g.g.d
  | 4 => .int .i64 g.x.n
  | 5 => .int .i64 g.x.d
  | 6 => .int .i64 g.s.n
  | 7 => .int .i64 g.s.d
  | 8 => .int .i64 g.k.n
  | 9 => .int .i64 g.k.d
  | _ => .bool g.t
def zps : Ps := ⟨⟨0, 0⟩, ⟨0, 0⟩, ⟨0, 0⟩, ⟨0, 0⟩, ⟨0, 0⟩, false⟩
set_option maxRecDepth 20000 in
set_option maxHeartbeats 3200000 in
theorem toPs (g : Ps) (w : World) : Calls Try.prog 62 #[.agg #[.int .i64 g.c.n, .int .i64 g.c.d, .int .i64 g.g.n, .int .i64 g.g.d, .int .i64 g.x.n, .int .i64 g.x.d, .int .i64 g.s.n, .int .i64 g.s.d, .int .i64 g.k.n, .int .i64 g.k.d, .bool g.t]] w fun e w' => e = .returned (.agg #[.int .i64 g.c.n, .int .i64 g.c.d, .int .i64 g.g.n, .int .i64 g.g.d, .int .i64 g.x.n, .int .i64 g.x.d, .int .i64 g.s.n, .int .i64 g.s.d, .int .i64 g.k.n, .int .i64 g.k.d, .bool g.t]) ∧ Below w.heap.size w w' := by
  go_enter Try.func62, Try.ntmps62
  go_wp2_with fail
  refine (toFrac_any g.c.n g.c.d _).mono ?_
  rintro e w1 ⟨rfl, hb⟩
  have s0 : w.heap.size + 1 + 1 < w1.heap.size := by have := hb.size; simp at this; omega
  have c0_0 : w1.cell? ⟨w.heap.size, 0, none⟩ = some (.int .i64 g.c.n) := (hb.cell (p := ⟨w.heap.size, 0, none⟩) (by first | (simp; done) | (simp; omega))).trans (by go_simp)
  have c0_1 : w1.cell? ⟨w.heap.size, 1, none⟩ = some (.int .i64 g.c.d) := (hb.cell (p := ⟨w.heap.size, 1, none⟩) (by first | (simp; done) | (simp; omega))).trans (by go_simp)
  have c0_2 : w1.cell? ⟨w.heap.size, 2, none⟩ = some (.int .i64 g.g.n) := (hb.cell (p := ⟨w.heap.size, 2, none⟩) (by first | (simp; done) | (simp; omega))).trans (by go_simp)
  have c0_3 : w1.cell? ⟨w.heap.size, 3, none⟩ = some (.int .i64 g.g.d) := (hb.cell (p := ⟨w.heap.size, 3, none⟩) (by first | (simp; done) | (simp; omega))).trans (by go_simp)
  have c0_4 : w1.cell? ⟨w.heap.size, 4, none⟩ = some (.int .i64 g.x.n) := (hb.cell (p := ⟨w.heap.size, 4, none⟩) (by first | (simp; done) | (simp; omega))).trans (by go_simp)
  have c0_5 : w1.cell? ⟨w.heap.size, 5, none⟩ = some (.int .i64 g.x.d) := (hb.cell (p := ⟨w.heap.size, 5, none⟩) (by first | (simp; done) | (simp; omega))).trans (by go_simp)
  have c0_6 : w1.cell? ⟨w.heap.size, 6, none⟩ = some (.int .i64 g.s.n) := (hb.cell (p := ⟨w.heap.size, 6, none⟩) (by first | (simp; done) | (simp; omega))).trans (by go_simp)
  have c0_7 : w1.cell? ⟨w.heap.size, 7, none⟩ = some (.int .i64 g.s.d) := (hb.cell (p := ⟨w.heap.size, 7, none⟩) (by first | (simp; done) | (simp; omega))).trans (by go_simp)
  have c0_8 : w1.cell? ⟨w.heap.size, 8, none⟩ = some (.int .i64 g.k.n) := (hb.cell (p := ⟨w.heap.size, 8, none⟩) (by first | (simp; done) | (simp; omega))).trans (by go_simp)
  have c0_9 : w1.cell? ⟨w.heap.size, 9, none⟩ = some (.int .i64 g.k.d) := (hb.cell (p := ⟨w.heap.size, 9, none⟩) (by first | (simp; done) | (simp; omega))).trans (by go_simp)
  have c0_10 : w1.cell? ⟨w.heap.size, 10, none⟩ = some (.bool g.t) := (hb.cell (p := ⟨w.heap.size, 10, none⟩) (by first | (simp; done) | (simp; omega))).trans (by go_simp)
  have c0_11 : w1.cell? ⟨w.heap.size + 1, 0, none⟩ = some (.int .i64 0) := (hb.cell (p := ⟨w.heap.size + 1, 0, none⟩) (by first | (simp; done) | (simp; omega))).trans (by go_simp)
  have c0_12 : w1.cell? ⟨w.heap.size + 1, 1, none⟩ = some (.int .i64 0) := (hb.cell (p := ⟨w.heap.size + 1, 1, none⟩) (by first | (simp; done) | (simp; omega))).trans (by go_simp)
  have c0_13 : w1.cell? ⟨w.heap.size + 1, 2, none⟩ = some (.int .i64 0) := (hb.cell (p := ⟨w.heap.size + 1, 2, none⟩) (by first | (simp; done) | (simp; omega))).trans (by go_simp)
  have c0_14 : w1.cell? ⟨w.heap.size + 1, 3, none⟩ = some (.int .i64 0) := (hb.cell (p := ⟨w.heap.size + 1, 3, none⟩) (by first | (simp; done) | (simp; omega))).trans (by go_simp)
  have c0_15 : w1.cell? ⟨w.heap.size + 1, 4, none⟩ = some (.int .i64 0) := (hb.cell (p := ⟨w.heap.size + 1, 4, none⟩) (by first | (simp; done) | (simp; omega))).trans (by go_simp)
  have c0_16 : w1.cell? ⟨w.heap.size + 1, 5, none⟩ = some (.int .i64 0) := (hb.cell (p := ⟨w.heap.size + 1, 5, none⟩) (by first | (simp; done) | (simp; omega))).trans (by go_simp)
  have c0_17 : w1.cell? ⟨w.heap.size + 1, 6, none⟩ = some (.int .i64 0) := (hb.cell (p := ⟨w.heap.size + 1, 6, none⟩) (by first | (simp; done) | (simp; omega))).trans (by go_simp)
  have c0_18 : w1.cell? ⟨w.heap.size + 1, 7, none⟩ = some (.int .i64 0) := (hb.cell (p := ⟨w.heap.size + 1, 7, none⟩) (by first | (simp; done) | (simp; omega))).trans (by go_simp)
  have c0_19 : w1.cell? ⟨w.heap.size + 1, 8, none⟩ = some (.int .i64 0) := (hb.cell (p := ⟨w.heap.size + 1, 8, none⟩) (by first | (simp; done) | (simp; omega))).trans (by go_simp)
  have c0_20 : w1.cell? ⟨w.heap.size + 1, 9, none⟩ = some (.int .i64 0) := (hb.cell (p := ⟨w.heap.size + 1, 9, none⟩) (by first | (simp; done) | (simp; omega))).trans (by go_simp)
  have c0_21 : w1.cell? ⟨w.heap.size + 1, 10, none⟩ = some (.bool false) := (hb.cell (p := ⟨w.heap.size + 1, 10, none⟩) (by first | (simp; done) | (simp; omega))).trans (by go_simp)
  have c0_22 : w1.cell? ⟨w.heap.size + 1 + 1, 0, none⟩ = some (.int .i64 0) := (hb.cell (p := ⟨w.heap.size + 1 + 1, 0, none⟩) (by first | (simp; done) | (simp; omega))).trans (by go_simp)
  have c0_23 : w1.cell? ⟨w.heap.size + 1 + 1, 1, none⟩ = some (.int .i64 0) := (hb.cell (p := ⟨w.heap.size + 1 + 1, 1, none⟩) (by first | (simp; done) | (simp; omega))).trans (by go_simp)
  have c0_24 : w1.cell? ⟨w.heap.size + 1 + 1, 2, none⟩ = some (.int .i64 0) := (hb.cell (p := ⟨w.heap.size + 1 + 1, 2, none⟩) (by first | (simp; done) | (simp; omega))).trans (by go_simp)
  have c0_25 : w1.cell? ⟨w.heap.size + 1 + 1, 3, none⟩ = some (.int .i64 0) := (hb.cell (p := ⟨w.heap.size + 1 + 1, 3, none⟩) (by first | (simp; done) | (simp; omega))).trans (by go_simp)
  have c0_26 : w1.cell? ⟨w.heap.size + 1 + 1, 4, none⟩ = some (.int .i64 0) := (hb.cell (p := ⟨w.heap.size + 1 + 1, 4, none⟩) (by first | (simp; done) | (simp; omega))).trans (by go_simp)
  have c0_27 : w1.cell? ⟨w.heap.size + 1 + 1, 5, none⟩ = some (.int .i64 0) := (hb.cell (p := ⟨w.heap.size + 1 + 1, 5, none⟩) (by first | (simp; done) | (simp; omega))).trans (by go_simp)
  have c0_28 : w1.cell? ⟨w.heap.size + 1 + 1, 6, none⟩ = some (.int .i64 0) := (hb.cell (p := ⟨w.heap.size + 1 + 1, 6, none⟩) (by first | (simp; done) | (simp; omega))).trans (by go_simp)
  have c0_29 : w1.cell? ⟨w.heap.size + 1 + 1, 7, none⟩ = some (.int .i64 0) := (hb.cell (p := ⟨w.heap.size + 1 + 1, 7, none⟩) (by first | (simp; done) | (simp; omega))).trans (by go_simp)
  have c0_30 : w1.cell? ⟨w.heap.size + 1 + 1, 8, none⟩ = some (.int .i64 0) := (hb.cell (p := ⟨w.heap.size + 1 + 1, 8, none⟩) (by first | (simp; done) | (simp; omega))).trans (by go_simp)
  have c0_31 : w1.cell? ⟨w.heap.size + 1 + 1, 9, none⟩ = some (.int .i64 0) := (hb.cell (p := ⟨w.heap.size + 1 + 1, 9, none⟩) (by first | (simp; done) | (simp; omega))).trans (by go_simp)
  have c0_32 : w1.cell? ⟨w.heap.size + 1 + 1, 10, none⟩ = some (.bool false) := (hb.cell (p := ⟨w.heap.size + 1 + 1, 10, none⟩) (by first | (simp; done) | (simp; omega))).trans (by go_simp)
  have f0_0 : w1.frozen? ⟨w.heap.size + 1, 0, none⟩ = false := (hb.frozen (p := ⟨w.heap.size + 1, 0, none⟩) (by first | (simp; done) | (simp; omega))).trans (by go_simp)
  have f0_1 : w1.frozen? ⟨w.heap.size + 1, 1, none⟩ = false := (hb.frozen (p := ⟨w.heap.size + 1, 1, none⟩) (by first | (simp; done) | (simp; omega))).trans (by go_simp)
  have f0_2 : w1.frozen? ⟨w.heap.size + 1, 2, none⟩ = false := (hb.frozen (p := ⟨w.heap.size + 1, 2, none⟩) (by first | (simp; done) | (simp; omega))).trans (by go_simp)
  have f0_3 : w1.frozen? ⟨w.heap.size + 1, 3, none⟩ = false := (hb.frozen (p := ⟨w.heap.size + 1, 3, none⟩) (by first | (simp; done) | (simp; omega))).trans (by go_simp)
  have f0_4 : w1.frozen? ⟨w.heap.size + 1, 4, none⟩ = false := (hb.frozen (p := ⟨w.heap.size + 1, 4, none⟩) (by first | (simp; done) | (simp; omega))).trans (by go_simp)
  have f0_5 : w1.frozen? ⟨w.heap.size + 1, 5, none⟩ = false := (hb.frozen (p := ⟨w.heap.size + 1, 5, none⟩) (by first | (simp; done) | (simp; omega))).trans (by go_simp)
  have f0_6 : w1.frozen? ⟨w.heap.size + 1, 6, none⟩ = false := (hb.frozen (p := ⟨w.heap.size + 1, 6, none⟩) (by first | (simp; done) | (simp; omega))).trans (by go_simp)
  have f0_7 : w1.frozen? ⟨w.heap.size + 1, 7, none⟩ = false := (hb.frozen (p := ⟨w.heap.size + 1, 7, none⟩) (by first | (simp; done) | (simp; omega))).trans (by go_simp)
  have f0_8 : w1.frozen? ⟨w.heap.size + 1, 8, none⟩ = false := (hb.frozen (p := ⟨w.heap.size + 1, 8, none⟩) (by first | (simp; done) | (simp; omega))).trans (by go_simp)
  have f0_9 : w1.frozen? ⟨w.heap.size + 1, 9, none⟩ = false := (hb.frozen (p := ⟨w.heap.size + 1, 9, none⟩) (by first | (simp; done) | (simp; omega))).trans (by go_simp)
  have f0_10 : w1.frozen? ⟨w.heap.size + 1, 10, none⟩ = false := (hb.frozen (p := ⟨w.heap.size + 1, 10, none⟩) (by first | (simp; done) | (simp; omega))).trans (by go_simp)
  have f0_11 : w1.frozen? ⟨w.heap.size + 1 + 1, 0, none⟩ = false := (hb.frozen (p := ⟨w.heap.size + 1 + 1, 0, none⟩) (by first | (simp; done) | (simp; omega))).trans (by go_simp)
  have f0_12 : w1.frozen? ⟨w.heap.size + 1 + 1, 1, none⟩ = false := (hb.frozen (p := ⟨w.heap.size + 1 + 1, 1, none⟩) (by first | (simp; done) | (simp; omega))).trans (by go_simp)
  have f0_13 : w1.frozen? ⟨w.heap.size + 1 + 1, 2, none⟩ = false := (hb.frozen (p := ⟨w.heap.size + 1 + 1, 2, none⟩) (by first | (simp; done) | (simp; omega))).trans (by go_simp)
  have f0_14 : w1.frozen? ⟨w.heap.size + 1 + 1, 3, none⟩ = false := (hb.frozen (p := ⟨w.heap.size + 1 + 1, 3, none⟩) (by first | (simp; done) | (simp; omega))).trans (by go_simp)
  have f0_15 : w1.frozen? ⟨w.heap.size + 1 + 1, 4, none⟩ = false := (hb.frozen (p := ⟨w.heap.size + 1 + 1, 4, none⟩) (by first | (simp; done) | (simp; omega))).trans (by go_simp)
  have f0_16 : w1.frozen? ⟨w.heap.size + 1 + 1, 5, none⟩ = false := (hb.frozen (p := ⟨w.heap.size + 1 + 1, 5, none⟩) (by first | (simp; done) | (simp; omega))).trans (by go_simp)
  have f0_17 : w1.frozen? ⟨w.heap.size + 1 + 1, 6, none⟩ = false := (hb.frozen (p := ⟨w.heap.size + 1 + 1, 6, none⟩) (by first | (simp; done) | (simp; omega))).trans (by go_simp)
  have f0_18 : w1.frozen? ⟨w.heap.size + 1 + 1, 7, none⟩ = false := (hb.frozen (p := ⟨w.heap.size + 1 + 1, 7, none⟩) (by first | (simp; done) | (simp; omega))).trans (by go_simp)
  have f0_19 : w1.frozen? ⟨w.heap.size + 1 + 1, 8, none⟩ = false := (hb.frozen (p := ⟨w.heap.size + 1 + 1, 8, none⟩) (by first | (simp; done) | (simp; omega))).trans (by go_simp)
  have f0_20 : w1.frozen? ⟨w.heap.size + 1 + 1, 9, none⟩ = false := (hb.frozen (p := ⟨w.heap.size + 1 + 1, 9, none⟩) (by first | (simp; done) | (simp; omega))).trans (by go_simp)
  have f0_21 : w1.frozen? ⟨w.heap.size + 1 + 1, 10, none⟩ = false := (hb.frozen (p := ⟨w.heap.size + 1 + 1, 10, none⟩) (by first | (simp; done) | (simp; omega))).trans (by go_simp)
  have HO : Hid (Below w.heap.size w w1) := by refine box_step ?_ hb (by simp <;> omega); go_grown
  clear hb 
  go_wp2_with fail
  refine (toFrac_any g.g.n g.g.d _).mono ?_
  rintro e w2 ⟨rfl, hb⟩
  have s1 : w.heap.size + 1 + 1 < w2.heap.size := by have := hb.size; simp at this; omega
  have c1_0 : w2.cell? ⟨w.heap.size, 0, none⟩ = some (.int .i64 g.c.n) := (hb.cell (p := ⟨w.heap.size, 0, none⟩) (by first | (simp; done) | (simp; omega))).trans (by go_simp)
  have c1_1 : w2.cell? ⟨w.heap.size, 1, none⟩ = some (.int .i64 g.c.d) := (hb.cell (p := ⟨w.heap.size, 1, none⟩) (by first | (simp; done) | (simp; omega))).trans (by go_simp)
  have c1_2 : w2.cell? ⟨w.heap.size, 2, none⟩ = some (.int .i64 g.g.n) := (hb.cell (p := ⟨w.heap.size, 2, none⟩) (by first | (simp; done) | (simp; omega))).trans (by go_simp)
  have c1_3 : w2.cell? ⟨w.heap.size, 3, none⟩ = some (.int .i64 g.g.d) := (hb.cell (p := ⟨w.heap.size, 3, none⟩) (by first | (simp; done) | (simp; omega))).trans (by go_simp)
  have c1_4 : w2.cell? ⟨w.heap.size, 4, none⟩ = some (.int .i64 g.x.n) := (hb.cell (p := ⟨w.heap.size, 4, none⟩) (by first | (simp; done) | (simp; omega))).trans (by go_simp)
  have c1_5 : w2.cell? ⟨w.heap.size, 5, none⟩ = some (.int .i64 g.x.d) := (hb.cell (p := ⟨w.heap.size, 5, none⟩) (by first | (simp; done) | (simp; omega))).trans (by go_simp)
  have c1_6 : w2.cell? ⟨w.heap.size, 6, none⟩ = some (.int .i64 g.s.n) := (hb.cell (p := ⟨w.heap.size, 6, none⟩) (by first | (simp; done) | (simp; omega))).trans (by go_simp)
  have c1_7 : w2.cell? ⟨w.heap.size, 7, none⟩ = some (.int .i64 g.s.d) := (hb.cell (p := ⟨w.heap.size, 7, none⟩) (by first | (simp; done) | (simp; omega))).trans (by go_simp)
  have c1_8 : w2.cell? ⟨w.heap.size, 8, none⟩ = some (.int .i64 g.k.n) := (hb.cell (p := ⟨w.heap.size, 8, none⟩) (by first | (simp; done) | (simp; omega))).trans (by go_simp)
  have c1_9 : w2.cell? ⟨w.heap.size, 9, none⟩ = some (.int .i64 g.k.d) := (hb.cell (p := ⟨w.heap.size, 9, none⟩) (by first | (simp; done) | (simp; omega))).trans (by go_simp)
  have c1_10 : w2.cell? ⟨w.heap.size, 10, none⟩ = some (.bool g.t) := (hb.cell (p := ⟨w.heap.size, 10, none⟩) (by first | (simp; done) | (simp; omega))).trans (by go_simp)
  have c1_11 : w2.cell? ⟨w.heap.size + 1, 0, none⟩ = some (.int .i64 0) := (hb.cell (p := ⟨w.heap.size + 1, 0, none⟩) (by first | (simp; done) | (simp; omega))).trans (by go_simp)
  have c1_12 : w2.cell? ⟨w.heap.size + 1, 1, none⟩ = some (.int .i64 0) := (hb.cell (p := ⟨w.heap.size + 1, 1, none⟩) (by first | (simp; done) | (simp; omega))).trans (by go_simp)
  have c1_13 : w2.cell? ⟨w.heap.size + 1, 2, none⟩ = some (.int .i64 0) := (hb.cell (p := ⟨w.heap.size + 1, 2, none⟩) (by first | (simp; done) | (simp; omega))).trans (by go_simp)
  have c1_14 : w2.cell? ⟨w.heap.size + 1, 3, none⟩ = some (.int .i64 0) := (hb.cell (p := ⟨w.heap.size + 1, 3, none⟩) (by first | (simp; done) | (simp; omega))).trans (by go_simp)
  have c1_15 : w2.cell? ⟨w.heap.size + 1, 4, none⟩ = some (.int .i64 0) := (hb.cell (p := ⟨w.heap.size + 1, 4, none⟩) (by first | (simp; done) | (simp; omega))).trans (by go_simp)
  have c1_16 : w2.cell? ⟨w.heap.size + 1, 5, none⟩ = some (.int .i64 0) := (hb.cell (p := ⟨w.heap.size + 1, 5, none⟩) (by first | (simp; done) | (simp; omega))).trans (by go_simp)
  have c1_17 : w2.cell? ⟨w.heap.size + 1, 6, none⟩ = some (.int .i64 0) := (hb.cell (p := ⟨w.heap.size + 1, 6, none⟩) (by first | (simp; done) | (simp; omega))).trans (by go_simp)
  have c1_18 : w2.cell? ⟨w.heap.size + 1, 7, none⟩ = some (.int .i64 0) := (hb.cell (p := ⟨w.heap.size + 1, 7, none⟩) (by first | (simp; done) | (simp; omega))).trans (by go_simp)
  have c1_19 : w2.cell? ⟨w.heap.size + 1, 8, none⟩ = some (.int .i64 0) := (hb.cell (p := ⟨w.heap.size + 1, 8, none⟩) (by first | (simp; done) | (simp; omega))).trans (by go_simp)
  have c1_20 : w2.cell? ⟨w.heap.size + 1, 9, none⟩ = some (.int .i64 0) := (hb.cell (p := ⟨w.heap.size + 1, 9, none⟩) (by first | (simp; done) | (simp; omega))).trans (by go_simp)
  have c1_21 : w2.cell? ⟨w.heap.size + 1, 10, none⟩ = some (.bool false) := (hb.cell (p := ⟨w.heap.size + 1, 10, none⟩) (by first | (simp; done) | (simp; omega))).trans (by go_simp)
  have c1_22 : w2.cell? ⟨w.heap.size + 1 + 1, 0, none⟩ = some (.int .i64 g.c.n) := (hb.cell (p := ⟨w.heap.size + 1 + 1, 0, none⟩) (by first | (simp; done) | (simp; omega))).trans (by go_simp)
  have c1_23 : w2.cell? ⟨w.heap.size + 1 + 1, 1, none⟩ = some (.int .i64 g.c.d) := (hb.cell (p := ⟨w.heap.size + 1 + 1, 1, none⟩) (by first | (simp; done) | (simp; omega))).trans (by go_simp)
  have c1_24 : w2.cell? ⟨w.heap.size + 1 + 1, 2, none⟩ = some (.int .i64 0) := (hb.cell (p := ⟨w.heap.size + 1 + 1, 2, none⟩) (by first | (simp; done) | (simp; omega))).trans (by go_simp)
  have c1_25 : w2.cell? ⟨w.heap.size + 1 + 1, 3, none⟩ = some (.int .i64 0) := (hb.cell (p := ⟨w.heap.size + 1 + 1, 3, none⟩) (by first | (simp; done) | (simp; omega))).trans (by go_simp)
  have c1_26 : w2.cell? ⟨w.heap.size + 1 + 1, 4, none⟩ = some (.int .i64 0) := (hb.cell (p := ⟨w.heap.size + 1 + 1, 4, none⟩) (by first | (simp; done) | (simp; omega))).trans (by go_simp)
  have c1_27 : w2.cell? ⟨w.heap.size + 1 + 1, 5, none⟩ = some (.int .i64 0) := (hb.cell (p := ⟨w.heap.size + 1 + 1, 5, none⟩) (by first | (simp; done) | (simp; omega))).trans (by go_simp)
  have c1_28 : w2.cell? ⟨w.heap.size + 1 + 1, 6, none⟩ = some (.int .i64 0) := (hb.cell (p := ⟨w.heap.size + 1 + 1, 6, none⟩) (by first | (simp; done) | (simp; omega))).trans (by go_simp)
  have c1_29 : w2.cell? ⟨w.heap.size + 1 + 1, 7, none⟩ = some (.int .i64 0) := (hb.cell (p := ⟨w.heap.size + 1 + 1, 7, none⟩) (by first | (simp; done) | (simp; omega))).trans (by go_simp)
  have c1_30 : w2.cell? ⟨w.heap.size + 1 + 1, 8, none⟩ = some (.int .i64 0) := (hb.cell (p := ⟨w.heap.size + 1 + 1, 8, none⟩) (by first | (simp; done) | (simp; omega))).trans (by go_simp)
  have c1_31 : w2.cell? ⟨w.heap.size + 1 + 1, 9, none⟩ = some (.int .i64 0) := (hb.cell (p := ⟨w.heap.size + 1 + 1, 9, none⟩) (by first | (simp; done) | (simp; omega))).trans (by go_simp)
  have c1_32 : w2.cell? ⟨w.heap.size + 1 + 1, 10, none⟩ = some (.bool false) := (hb.cell (p := ⟨w.heap.size + 1 + 1, 10, none⟩) (by first | (simp; done) | (simp; omega))).trans (by go_simp)
  have f1_0 : w2.frozen? ⟨w.heap.size + 1, 0, none⟩ = false := (hb.frozen (p := ⟨w.heap.size + 1, 0, none⟩) (by first | (simp; done) | (simp; omega))).trans (by go_simp)
  have f1_1 : w2.frozen? ⟨w.heap.size + 1, 1, none⟩ = false := (hb.frozen (p := ⟨w.heap.size + 1, 1, none⟩) (by first | (simp; done) | (simp; omega))).trans (by go_simp)
  have f1_2 : w2.frozen? ⟨w.heap.size + 1, 2, none⟩ = false := (hb.frozen (p := ⟨w.heap.size + 1, 2, none⟩) (by first | (simp; done) | (simp; omega))).trans (by go_simp)
  have f1_3 : w2.frozen? ⟨w.heap.size + 1, 3, none⟩ = false := (hb.frozen (p := ⟨w.heap.size + 1, 3, none⟩) (by first | (simp; done) | (simp; omega))).trans (by go_simp)
  have f1_4 : w2.frozen? ⟨w.heap.size + 1, 4, none⟩ = false := (hb.frozen (p := ⟨w.heap.size + 1, 4, none⟩) (by first | (simp; done) | (simp; omega))).trans (by go_simp)
  have f1_5 : w2.frozen? ⟨w.heap.size + 1, 5, none⟩ = false := (hb.frozen (p := ⟨w.heap.size + 1, 5, none⟩) (by first | (simp; done) | (simp; omega))).trans (by go_simp)
  have f1_6 : w2.frozen? ⟨w.heap.size + 1, 6, none⟩ = false := (hb.frozen (p := ⟨w.heap.size + 1, 6, none⟩) (by first | (simp; done) | (simp; omega))).trans (by go_simp)
  have f1_7 : w2.frozen? ⟨w.heap.size + 1, 7, none⟩ = false := (hb.frozen (p := ⟨w.heap.size + 1, 7, none⟩) (by first | (simp; done) | (simp; omega))).trans (by go_simp)
  have f1_8 : w2.frozen? ⟨w.heap.size + 1, 8, none⟩ = false := (hb.frozen (p := ⟨w.heap.size + 1, 8, none⟩) (by first | (simp; done) | (simp; omega))).trans (by go_simp)
  have f1_9 : w2.frozen? ⟨w.heap.size + 1, 9, none⟩ = false := (hb.frozen (p := ⟨w.heap.size + 1, 9, none⟩) (by first | (simp; done) | (simp; omega))).trans (by go_simp)
  have f1_10 : w2.frozen? ⟨w.heap.size + 1, 10, none⟩ = false := (hb.frozen (p := ⟨w.heap.size + 1, 10, none⟩) (by first | (simp; done) | (simp; omega))).trans (by go_simp)
  have f1_11 : w2.frozen? ⟨w.heap.size + 1 + 1, 0, none⟩ = false := (hb.frozen (p := ⟨w.heap.size + 1 + 1, 0, none⟩) (by first | (simp; done) | (simp; omega))).trans (by go_simp)
  have f1_12 : w2.frozen? ⟨w.heap.size + 1 + 1, 1, none⟩ = false := (hb.frozen (p := ⟨w.heap.size + 1 + 1, 1, none⟩) (by first | (simp; done) | (simp; omega))).trans (by go_simp)
  have f1_13 : w2.frozen? ⟨w.heap.size + 1 + 1, 2, none⟩ = false := (hb.frozen (p := ⟨w.heap.size + 1 + 1, 2, none⟩) (by first | (simp; done) | (simp; omega))).trans (by go_simp)
  have f1_14 : w2.frozen? ⟨w.heap.size + 1 + 1, 3, none⟩ = false := (hb.frozen (p := ⟨w.heap.size + 1 + 1, 3, none⟩) (by first | (simp; done) | (simp; omega))).trans (by go_simp)
  have f1_15 : w2.frozen? ⟨w.heap.size + 1 + 1, 4, none⟩ = false := (hb.frozen (p := ⟨w.heap.size + 1 + 1, 4, none⟩) (by first | (simp; done) | (simp; omega))).trans (by go_simp)
  have f1_16 : w2.frozen? ⟨w.heap.size + 1 + 1, 5, none⟩ = false := (hb.frozen (p := ⟨w.heap.size + 1 + 1, 5, none⟩) (by first | (simp; done) | (simp; omega))).trans (by go_simp)
  have f1_17 : w2.frozen? ⟨w.heap.size + 1 + 1, 6, none⟩ = false := (hb.frozen (p := ⟨w.heap.size + 1 + 1, 6, none⟩) (by first | (simp; done) | (simp; omega))).trans (by go_simp)
  have f1_18 : w2.frozen? ⟨w.heap.size + 1 + 1, 7, none⟩ = false := (hb.frozen (p := ⟨w.heap.size + 1 + 1, 7, none⟩) (by first | (simp; done) | (simp; omega))).trans (by go_simp)
  have f1_19 : w2.frozen? ⟨w.heap.size + 1 + 1, 8, none⟩ = false := (hb.frozen (p := ⟨w.heap.size + 1 + 1, 8, none⟩) (by first | (simp; done) | (simp; omega))).trans (by go_simp)
  have f1_20 : w2.frozen? ⟨w.heap.size + 1 + 1, 9, none⟩ = false := (hb.frozen (p := ⟨w.heap.size + 1 + 1, 9, none⟩) (by first | (simp; done) | (simp; omega))).trans (by go_simp)
  have f1_21 : w2.frozen? ⟨w.heap.size + 1 + 1, 10, none⟩ = false := (hb.frozen (p := ⟨w.heap.size + 1 + 1, 10, none⟩) (by first | (simp; done) | (simp; omega))).trans (by go_simp)
  have HO : Hid (Below w.heap.size w w2) := by have h := HO.out; refine box_step ?_ hb (by go_size); go_grown
  clear hb c0_0 c0_1 c0_2 c0_3 c0_4 c0_5 c0_6 c0_7 c0_8 c0_9 c0_10 c0_11 c0_12 c0_13 c0_14 c0_15 c0_16 c0_17 c0_18 c0_19 c0_20 c0_21 c0_22 c0_23 c0_24 c0_25 c0_26 c0_27 c0_28 c0_29 c0_30 c0_31 c0_32 f0_0 f0_1 f0_2 f0_3 f0_4 f0_5 f0_6 f0_7 f0_8 f0_9 f0_10 f0_11 f0_12 f0_13 f0_14 f0_15 f0_16 f0_17 f0_18 f0_19 f0_20 f0_21 s0
  go_wp2_with fail
  refine (toFrac_any g.x.n g.x.d _).mono ?_
  rintro e w3 ⟨rfl, hb⟩
  have s2 : w.heap.size + 1 + 1 < w3.heap.size := by have := hb.size; simp at this; omega
  have c2_0 : w3.cell? ⟨w.heap.size, 0, none⟩ = some (.int .i64 g.c.n) := (hb.cell (p := ⟨w.heap.size, 0, none⟩) (by first | (simp; done) | (simp; omega))).trans (by go_simp)
  have c2_1 : w3.cell? ⟨w.heap.size, 1, none⟩ = some (.int .i64 g.c.d) := (hb.cell (p := ⟨w.heap.size, 1, none⟩) (by first | (simp; done) | (simp; omega))).trans (by go_simp)
  have c2_2 : w3.cell? ⟨w.heap.size, 2, none⟩ = some (.int .i64 g.g.n) := (hb.cell (p := ⟨w.heap.size, 2, none⟩) (by first | (simp; done) | (simp; omega))).trans (by go_simp)
  have c2_3 : w3.cell? ⟨w.heap.size, 3, none⟩ = some (.int .i64 g.g.d) := (hb.cell (p := ⟨w.heap.size, 3, none⟩) (by first | (simp; done) | (simp; omega))).trans (by go_simp)
  have c2_4 : w3.cell? ⟨w.heap.size, 4, none⟩ = some (.int .i64 g.x.n) := (hb.cell (p := ⟨w.heap.size, 4, none⟩) (by first | (simp; done) | (simp; omega))).trans (by go_simp)
  have c2_5 : w3.cell? ⟨w.heap.size, 5, none⟩ = some (.int .i64 g.x.d) := (hb.cell (p := ⟨w.heap.size, 5, none⟩) (by first | (simp; done) | (simp; omega))).trans (by go_simp)
  have c2_6 : w3.cell? ⟨w.heap.size, 6, none⟩ = some (.int .i64 g.s.n) := (hb.cell (p := ⟨w.heap.size, 6, none⟩) (by first | (simp; done) | (simp; omega))).trans (by go_simp)
  have c2_7 : w3.cell? ⟨w.heap.size, 7, none⟩ = some (.int .i64 g.s.d) := (hb.cell (p := ⟨w.heap.size, 7, none⟩) (by first | (simp; done) | (simp; omega))).trans (by go_simp)
  have c2_8 : w3.cell? ⟨w.heap.size, 8, none⟩ = some (.int .i64 g.k.n) := (hb.cell (p := ⟨w.heap.size, 8, none⟩) (by first | (simp; done) | (simp; omega))).trans (by go_simp)
  have c2_9 : w3.cell? ⟨w.heap.size, 9, none⟩ = some (.int .i64 g.k.d) := (hb.cell (p := ⟨w.heap.size, 9, none⟩) (by first | (simp; done) | (simp; omega))).trans (by go_simp)
  have c2_10 : w3.cell? ⟨w.heap.size, 10, none⟩ = some (.bool g.t) := (hb.cell (p := ⟨w.heap.size, 10, none⟩) (by first | (simp; done) | (simp; omega))).trans (by go_simp)
  have c2_11 : w3.cell? ⟨w.heap.size + 1, 0, none⟩ = some (.int .i64 0) := (hb.cell (p := ⟨w.heap.size + 1, 0, none⟩) (by first | (simp; done) | (simp; omega))).trans (by go_simp)
  have c2_12 : w3.cell? ⟨w.heap.size + 1, 1, none⟩ = some (.int .i64 0) := (hb.cell (p := ⟨w.heap.size + 1, 1, none⟩) (by first | (simp; done) | (simp; omega))).trans (by go_simp)
  have c2_13 : w3.cell? ⟨w.heap.size + 1, 2, none⟩ = some (.int .i64 0) := (hb.cell (p := ⟨w.heap.size + 1, 2, none⟩) (by first | (simp; done) | (simp; omega))).trans (by go_simp)
  have c2_14 : w3.cell? ⟨w.heap.size + 1, 3, none⟩ = some (.int .i64 0) := (hb.cell (p := ⟨w.heap.size + 1, 3, none⟩) (by first | (simp; done) | (simp; omega))).trans (by go_simp)
  have c2_15 : w3.cell? ⟨w.heap.size + 1, 4, none⟩ = some (.int .i64 0) := (hb.cell (p := ⟨w.heap.size + 1, 4, none⟩) (by first | (simp; done) | (simp; omega))).trans (by go_simp)
  have c2_16 : w3.cell? ⟨w.heap.size + 1, 5, none⟩ = some (.int .i64 0) := (hb.cell (p := ⟨w.heap.size + 1, 5, none⟩) (by first | (simp; done) | (simp; omega))).trans (by go_simp)
  have c2_17 : w3.cell? ⟨w.heap.size + 1, 6, none⟩ = some (.int .i64 0) := (hb.cell (p := ⟨w.heap.size + 1, 6, none⟩) (by first | (simp; done) | (simp; omega))).trans (by go_simp)
  have c2_18 : w3.cell? ⟨w.heap.size + 1, 7, none⟩ = some (.int .i64 0) := (hb.cell (p := ⟨w.heap.size + 1, 7, none⟩) (by first | (simp; done) | (simp; omega))).trans (by go_simp)
  have c2_19 : w3.cell? ⟨w.heap.size + 1, 8, none⟩ = some (.int .i64 0) := (hb.cell (p := ⟨w.heap.size + 1, 8, none⟩) (by first | (simp; done) | (simp; omega))).trans (by go_simp)
  have c2_20 : w3.cell? ⟨w.heap.size + 1, 9, none⟩ = some (.int .i64 0) := (hb.cell (p := ⟨w.heap.size + 1, 9, none⟩) (by first | (simp; done) | (simp; omega))).trans (by go_simp)
  have c2_21 : w3.cell? ⟨w.heap.size + 1, 10, none⟩ = some (.bool false) := (hb.cell (p := ⟨w.heap.size + 1, 10, none⟩) (by first | (simp; done) | (simp; omega))).trans (by go_simp)
  have c2_22 : w3.cell? ⟨w.heap.size + 1 + 1, 0, none⟩ = some (.int .i64 g.c.n) := (hb.cell (p := ⟨w.heap.size + 1 + 1, 0, none⟩) (by first | (simp; done) | (simp; omega))).trans (by go_simp)
  have c2_23 : w3.cell? ⟨w.heap.size + 1 + 1, 1, none⟩ = some (.int .i64 g.c.d) := (hb.cell (p := ⟨w.heap.size + 1 + 1, 1, none⟩) (by first | (simp; done) | (simp; omega))).trans (by go_simp)
  have c2_24 : w3.cell? ⟨w.heap.size + 1 + 1, 2, none⟩ = some (.int .i64 g.g.n) := (hb.cell (p := ⟨w.heap.size + 1 + 1, 2, none⟩) (by first | (simp; done) | (simp; omega))).trans (by go_simp)
  have c2_25 : w3.cell? ⟨w.heap.size + 1 + 1, 3, none⟩ = some (.int .i64 g.g.d) := (hb.cell (p := ⟨w.heap.size + 1 + 1, 3, none⟩) (by first | (simp; done) | (simp; omega))).trans (by go_simp)
  have c2_26 : w3.cell? ⟨w.heap.size + 1 + 1, 4, none⟩ = some (.int .i64 0) := (hb.cell (p := ⟨w.heap.size + 1 + 1, 4, none⟩) (by first | (simp; done) | (simp; omega))).trans (by go_simp)
  have c2_27 : w3.cell? ⟨w.heap.size + 1 + 1, 5, none⟩ = some (.int .i64 0) := (hb.cell (p := ⟨w.heap.size + 1 + 1, 5, none⟩) (by first | (simp; done) | (simp; omega))).trans (by go_simp)
  have c2_28 : w3.cell? ⟨w.heap.size + 1 + 1, 6, none⟩ = some (.int .i64 0) := (hb.cell (p := ⟨w.heap.size + 1 + 1, 6, none⟩) (by first | (simp; done) | (simp; omega))).trans (by go_simp)
  have c2_29 : w3.cell? ⟨w.heap.size + 1 + 1, 7, none⟩ = some (.int .i64 0) := (hb.cell (p := ⟨w.heap.size + 1 + 1, 7, none⟩) (by first | (simp; done) | (simp; omega))).trans (by go_simp)
  have c2_30 : w3.cell? ⟨w.heap.size + 1 + 1, 8, none⟩ = some (.int .i64 0) := (hb.cell (p := ⟨w.heap.size + 1 + 1, 8, none⟩) (by first | (simp; done) | (simp; omega))).trans (by go_simp)
  have c2_31 : w3.cell? ⟨w.heap.size + 1 + 1, 9, none⟩ = some (.int .i64 0) := (hb.cell (p := ⟨w.heap.size + 1 + 1, 9, none⟩) (by first | (simp; done) | (simp; omega))).trans (by go_simp)
  have c2_32 : w3.cell? ⟨w.heap.size + 1 + 1, 10, none⟩ = some (.bool false) := (hb.cell (p := ⟨w.heap.size + 1 + 1, 10, none⟩) (by first | (simp; done) | (simp; omega))).trans (by go_simp)
  have f2_0 : w3.frozen? ⟨w.heap.size + 1, 0, none⟩ = false := (hb.frozen (p := ⟨w.heap.size + 1, 0, none⟩) (by first | (simp; done) | (simp; omega))).trans (by go_simp)
  have f2_1 : w3.frozen? ⟨w.heap.size + 1, 1, none⟩ = false := (hb.frozen (p := ⟨w.heap.size + 1, 1, none⟩) (by first | (simp; done) | (simp; omega))).trans (by go_simp)
  have f2_2 : w3.frozen? ⟨w.heap.size + 1, 2, none⟩ = false := (hb.frozen (p := ⟨w.heap.size + 1, 2, none⟩) (by first | (simp; done) | (simp; omega))).trans (by go_simp)
  have f2_3 : w3.frozen? ⟨w.heap.size + 1, 3, none⟩ = false := (hb.frozen (p := ⟨w.heap.size + 1, 3, none⟩) (by first | (simp; done) | (simp; omega))).trans (by go_simp)
  have f2_4 : w3.frozen? ⟨w.heap.size + 1, 4, none⟩ = false := (hb.frozen (p := ⟨w.heap.size + 1, 4, none⟩) (by first | (simp; done) | (simp; omega))).trans (by go_simp)
  have f2_5 : w3.frozen? ⟨w.heap.size + 1, 5, none⟩ = false := (hb.frozen (p := ⟨w.heap.size + 1, 5, none⟩) (by first | (simp; done) | (simp; omega))).trans (by go_simp)
  have f2_6 : w3.frozen? ⟨w.heap.size + 1, 6, none⟩ = false := (hb.frozen (p := ⟨w.heap.size + 1, 6, none⟩) (by first | (simp; done) | (simp; omega))).trans (by go_simp)
  have f2_7 : w3.frozen? ⟨w.heap.size + 1, 7, none⟩ = false := (hb.frozen (p := ⟨w.heap.size + 1, 7, none⟩) (by first | (simp; done) | (simp; omega))).trans (by go_simp)
  have f2_8 : w3.frozen? ⟨w.heap.size + 1, 8, none⟩ = false := (hb.frozen (p := ⟨w.heap.size + 1, 8, none⟩) (by first | (simp; done) | (simp; omega))).trans (by go_simp)
  have f2_9 : w3.frozen? ⟨w.heap.size + 1, 9, none⟩ = false := (hb.frozen (p := ⟨w.heap.size + 1, 9, none⟩) (by first | (simp; done) | (simp; omega))).trans (by go_simp)
  have f2_10 : w3.frozen? ⟨w.heap.size + 1, 10, none⟩ = false := (hb.frozen (p := ⟨w.heap.size + 1, 10, none⟩) (by first | (simp; done) | (simp; omega))).trans (by go_simp)
  have f2_11 : w3.frozen? ⟨w.heap.size + 1 + 1, 0, none⟩ = false := (hb.frozen (p := ⟨w.heap.size + 1 + 1, 0, none⟩) (by first | (simp; done) | (simp; omega))).trans (by go_simp)
  have f2_12 : w3.frozen? ⟨w.heap.size + 1 + 1, 1, none⟩ = false := (hb.frozen (p := ⟨w.heap.size + 1 + 1, 1, none⟩) (by first | (simp; done) | (simp; omega))).trans (by go_simp)
  have f2_13 : w3.frozen? ⟨w.heap.size + 1 + 1, 2, none⟩ = false := (hb.frozen (p := ⟨w.heap.size + 1 + 1, 2, none⟩) (by first | (simp; done) | (simp; omega))).trans (by go_simp)
  have f2_14 : w3.frozen? ⟨w.heap.size + 1 + 1, 3, none⟩ = false := (hb.frozen (p := ⟨w.heap.size + 1 + 1, 3, none⟩) (by first | (simp; done) | (simp; omega))).trans (by go_simp)
  have f2_15 : w3.frozen? ⟨w.heap.size + 1 + 1, 4, none⟩ = false := (hb.frozen (p := ⟨w.heap.size + 1 + 1, 4, none⟩) (by first | (simp; done) | (simp; omega))).trans (by go_simp)
  have f2_16 : w3.frozen? ⟨w.heap.size + 1 + 1, 5, none⟩ = false := (hb.frozen (p := ⟨w.heap.size + 1 + 1, 5, none⟩) (by first | (simp; done) | (simp; omega))).trans (by go_simp)
  have f2_17 : w3.frozen? ⟨w.heap.size + 1 + 1, 6, none⟩ = false := (hb.frozen (p := ⟨w.heap.size + 1 + 1, 6, none⟩) (by first | (simp; done) | (simp; omega))).trans (by go_simp)
  have f2_18 : w3.frozen? ⟨w.heap.size + 1 + 1, 7, none⟩ = false := (hb.frozen (p := ⟨w.heap.size + 1 + 1, 7, none⟩) (by first | (simp; done) | (simp; omega))).trans (by go_simp)
  have f2_19 : w3.frozen? ⟨w.heap.size + 1 + 1, 8, none⟩ = false := (hb.frozen (p := ⟨w.heap.size + 1 + 1, 8, none⟩) (by first | (simp; done) | (simp; omega))).trans (by go_simp)
  have f2_20 : w3.frozen? ⟨w.heap.size + 1 + 1, 9, none⟩ = false := (hb.frozen (p := ⟨w.heap.size + 1 + 1, 9, none⟩) (by first | (simp; done) | (simp; omega))).trans (by go_simp)
  have f2_21 : w3.frozen? ⟨w.heap.size + 1 + 1, 10, none⟩ = false := (hb.frozen (p := ⟨w.heap.size + 1 + 1, 10, none⟩) (by first | (simp; done) | (simp; omega))).trans (by go_simp)
  have HO : Hid (Below w.heap.size w w3) := by have h := HO.out; refine box_step ?_ hb (by go_size); go_grown
  clear hb c1_0 c1_1 c1_2 c1_3 c1_4 c1_5 c1_6 c1_7 c1_8 c1_9 c1_10 c1_11 c1_12 c1_13 c1_14 c1_15 c1_16 c1_17 c1_18 c1_19 c1_20 c1_21 c1_22 c1_23 c1_24 c1_25 c1_26 c1_27 c1_28 c1_29 c1_30 c1_31 c1_32 f1_0 f1_1 f1_2 f1_3 f1_4 f1_5 f1_6 f1_7 f1_8 f1_9 f1_10 f1_11 f1_12 f1_13 f1_14 f1_15 f1_16 f1_17 f1_18 f1_19 f1_20 f1_21 s1
  go_wp2_with fail
  refine (toFrac_any g.s.n g.s.d _).mono ?_
  rintro e w4 ⟨rfl, hb⟩
  have s3 : w.heap.size + 1 + 1 < w4.heap.size := by have := hb.size; simp at this; omega
  have c3_0 : w4.cell? ⟨w.heap.size, 0, none⟩ = some (.int .i64 g.c.n) := (hb.cell (p := ⟨w.heap.size, 0, none⟩) (by first | (simp; done) | (simp; omega))).trans (by go_simp)
  have c3_1 : w4.cell? ⟨w.heap.size, 1, none⟩ = some (.int .i64 g.c.d) := (hb.cell (p := ⟨w.heap.size, 1, none⟩) (by first | (simp; done) | (simp; omega))).trans (by go_simp)
  have c3_2 : w4.cell? ⟨w.heap.size, 2, none⟩ = some (.int .i64 g.g.n) := (hb.cell (p := ⟨w.heap.size, 2, none⟩) (by first | (simp; done) | (simp; omega))).trans (by go_simp)
  have c3_3 : w4.cell? ⟨w.heap.size, 3, none⟩ = some (.int .i64 g.g.d) := (hb.cell (p := ⟨w.heap.size, 3, none⟩) (by first | (simp; done) | (simp; omega))).trans (by go_simp)
  have c3_4 : w4.cell? ⟨w.heap.size, 4, none⟩ = some (.int .i64 g.x.n) := (hb.cell (p := ⟨w.heap.size, 4, none⟩) (by first | (simp; done) | (simp; omega))).trans (by go_simp)
  have c3_5 : w4.cell? ⟨w.heap.size, 5, none⟩ = some (.int .i64 g.x.d) := (hb.cell (p := ⟨w.heap.size, 5, none⟩) (by first | (simp; done) | (simp; omega))).trans (by go_simp)
  have c3_6 : w4.cell? ⟨w.heap.size, 6, none⟩ = some (.int .i64 g.s.n) := (hb.cell (p := ⟨w.heap.size, 6, none⟩) (by first | (simp; done) | (simp; omega))).trans (by go_simp)
  have c3_7 : w4.cell? ⟨w.heap.size, 7, none⟩ = some (.int .i64 g.s.d) := (hb.cell (p := ⟨w.heap.size, 7, none⟩) (by first | (simp; done) | (simp; omega))).trans (by go_simp)
  have c3_8 : w4.cell? ⟨w.heap.size, 8, none⟩ = some (.int .i64 g.k.n) := (hb.cell (p := ⟨w.heap.size, 8, none⟩) (by first | (simp; done) | (simp; omega))).trans (by go_simp)
  have c3_9 : w4.cell? ⟨w.heap.size, 9, none⟩ = some (.int .i64 g.k.d) := (hb.cell (p := ⟨w.heap.size, 9, none⟩) (by first | (simp; done) | (simp; omega))).trans (by go_simp)
  have c3_10 : w4.cell? ⟨w.heap.size, 10, none⟩ = some (.bool g.t) := (hb.cell (p := ⟨w.heap.size, 10, none⟩) (by first | (simp; done) | (simp; omega))).trans (by go_simp)
  have c3_11 : w4.cell? ⟨w.heap.size + 1, 0, none⟩ = some (.int .i64 0) := (hb.cell (p := ⟨w.heap.size + 1, 0, none⟩) (by first | (simp; done) | (simp; omega))).trans (by go_simp)
  have c3_12 : w4.cell? ⟨w.heap.size + 1, 1, none⟩ = some (.int .i64 0) := (hb.cell (p := ⟨w.heap.size + 1, 1, none⟩) (by first | (simp; done) | (simp; omega))).trans (by go_simp)
  have c3_13 : w4.cell? ⟨w.heap.size + 1, 2, none⟩ = some (.int .i64 0) := (hb.cell (p := ⟨w.heap.size + 1, 2, none⟩) (by first | (simp; done) | (simp; omega))).trans (by go_simp)
  have c3_14 : w4.cell? ⟨w.heap.size + 1, 3, none⟩ = some (.int .i64 0) := (hb.cell (p := ⟨w.heap.size + 1, 3, none⟩) (by first | (simp; done) | (simp; omega))).trans (by go_simp)
  have c3_15 : w4.cell? ⟨w.heap.size + 1, 4, none⟩ = some (.int .i64 0) := (hb.cell (p := ⟨w.heap.size + 1, 4, none⟩) (by first | (simp; done) | (simp; omega))).trans (by go_simp)
  have c3_16 : w4.cell? ⟨w.heap.size + 1, 5, none⟩ = some (.int .i64 0) := (hb.cell (p := ⟨w.heap.size + 1, 5, none⟩) (by first | (simp; done) | (simp; omega))).trans (by go_simp)
  have c3_17 : w4.cell? ⟨w.heap.size + 1, 6, none⟩ = some (.int .i64 0) := (hb.cell (p := ⟨w.heap.size + 1, 6, none⟩) (by first | (simp; done) | (simp; omega))).trans (by go_simp)
  have c3_18 : w4.cell? ⟨w.heap.size + 1, 7, none⟩ = some (.int .i64 0) := (hb.cell (p := ⟨w.heap.size + 1, 7, none⟩) (by first | (simp; done) | (simp; omega))).trans (by go_simp)
  have c3_19 : w4.cell? ⟨w.heap.size + 1, 8, none⟩ = some (.int .i64 0) := (hb.cell (p := ⟨w.heap.size + 1, 8, none⟩) (by first | (simp; done) | (simp; omega))).trans (by go_simp)
  have c3_20 : w4.cell? ⟨w.heap.size + 1, 9, none⟩ = some (.int .i64 0) := (hb.cell (p := ⟨w.heap.size + 1, 9, none⟩) (by first | (simp; done) | (simp; omega))).trans (by go_simp)
  have c3_21 : w4.cell? ⟨w.heap.size + 1, 10, none⟩ = some (.bool false) := (hb.cell (p := ⟨w.heap.size + 1, 10, none⟩) (by first | (simp; done) | (simp; omega))).trans (by go_simp)
  have c3_22 : w4.cell? ⟨w.heap.size + 1 + 1, 0, none⟩ = some (.int .i64 g.c.n) := (hb.cell (p := ⟨w.heap.size + 1 + 1, 0, none⟩) (by first | (simp; done) | (simp; omega))).trans (by go_simp)
  have c3_23 : w4.cell? ⟨w.heap.size + 1 + 1, 1, none⟩ = some (.int .i64 g.c.d) := (hb.cell (p := ⟨w.heap.size + 1 + 1, 1, none⟩) (by first | (simp; done) | (simp; omega))).trans (by go_simp)
  have c3_24 : w4.cell? ⟨w.heap.size + 1 + 1, 2, none⟩ = some (.int .i64 g.g.n) := (hb.cell (p := ⟨w.heap.size + 1 + 1, 2, none⟩) (by first | (simp; done) | (simp; omega))).trans (by go_simp)
  have c3_25 : w4.cell? ⟨w.heap.size + 1 + 1, 3, none⟩ = some (.int .i64 g.g.d) := (hb.cell (p := ⟨w.heap.size + 1 + 1, 3, none⟩) (by first | (simp; done) | (simp; omega))).trans (by go_simp)
  have c3_26 : w4.cell? ⟨w.heap.size + 1 + 1, 4, none⟩ = some (.int .i64 g.x.n) := (hb.cell (p := ⟨w.heap.size + 1 + 1, 4, none⟩) (by first | (simp; done) | (simp; omega))).trans (by go_simp)
  have c3_27 : w4.cell? ⟨w.heap.size + 1 + 1, 5, none⟩ = some (.int .i64 g.x.d) := (hb.cell (p := ⟨w.heap.size + 1 + 1, 5, none⟩) (by first | (simp; done) | (simp; omega))).trans (by go_simp)
  have c3_28 : w4.cell? ⟨w.heap.size + 1 + 1, 6, none⟩ = some (.int .i64 0) := (hb.cell (p := ⟨w.heap.size + 1 + 1, 6, none⟩) (by first | (simp; done) | (simp; omega))).trans (by go_simp)
  have c3_29 : w4.cell? ⟨w.heap.size + 1 + 1, 7, none⟩ = some (.int .i64 0) := (hb.cell (p := ⟨w.heap.size + 1 + 1, 7, none⟩) (by first | (simp; done) | (simp; omega))).trans (by go_simp)
  have c3_30 : w4.cell? ⟨w.heap.size + 1 + 1, 8, none⟩ = some (.int .i64 0) := (hb.cell (p := ⟨w.heap.size + 1 + 1, 8, none⟩) (by first | (simp; done) | (simp; omega))).trans (by go_simp)
  have c3_31 : w4.cell? ⟨w.heap.size + 1 + 1, 9, none⟩ = some (.int .i64 0) := (hb.cell (p := ⟨w.heap.size + 1 + 1, 9, none⟩) (by first | (simp; done) | (simp; omega))).trans (by go_simp)
  have c3_32 : w4.cell? ⟨w.heap.size + 1 + 1, 10, none⟩ = some (.bool false) := (hb.cell (p := ⟨w.heap.size + 1 + 1, 10, none⟩) (by first | (simp; done) | (simp; omega))).trans (by go_simp)
  have f3_0 : w4.frozen? ⟨w.heap.size + 1, 0, none⟩ = false := (hb.frozen (p := ⟨w.heap.size + 1, 0, none⟩) (by first | (simp; done) | (simp; omega))).trans (by go_simp)
  have f3_1 : w4.frozen? ⟨w.heap.size + 1, 1, none⟩ = false := (hb.frozen (p := ⟨w.heap.size + 1, 1, none⟩) (by first | (simp; done) | (simp; omega))).trans (by go_simp)
  have f3_2 : w4.frozen? ⟨w.heap.size + 1, 2, none⟩ = false := (hb.frozen (p := ⟨w.heap.size + 1, 2, none⟩) (by first | (simp; done) | (simp; omega))).trans (by go_simp)
  have f3_3 : w4.frozen? ⟨w.heap.size + 1, 3, none⟩ = false := (hb.frozen (p := ⟨w.heap.size + 1, 3, none⟩) (by first | (simp; done) | (simp; omega))).trans (by go_simp)
  have f3_4 : w4.frozen? ⟨w.heap.size + 1, 4, none⟩ = false := (hb.frozen (p := ⟨w.heap.size + 1, 4, none⟩) (by first | (simp; done) | (simp; omega))).trans (by go_simp)
  have f3_5 : w4.frozen? ⟨w.heap.size + 1, 5, none⟩ = false := (hb.frozen (p := ⟨w.heap.size + 1, 5, none⟩) (by first | (simp; done) | (simp; omega))).trans (by go_simp)
  have f3_6 : w4.frozen? ⟨w.heap.size + 1, 6, none⟩ = false := (hb.frozen (p := ⟨w.heap.size + 1, 6, none⟩) (by first | (simp; done) | (simp; omega))).trans (by go_simp)
  have f3_7 : w4.frozen? ⟨w.heap.size + 1, 7, none⟩ = false := (hb.frozen (p := ⟨w.heap.size + 1, 7, none⟩) (by first | (simp; done) | (simp; omega))).trans (by go_simp)
  have f3_8 : w4.frozen? ⟨w.heap.size + 1, 8, none⟩ = false := (hb.frozen (p := ⟨w.heap.size + 1, 8, none⟩) (by first | (simp; done) | (simp; omega))).trans (by go_simp)
  have f3_9 : w4.frozen? ⟨w.heap.size + 1, 9, none⟩ = false := (hb.frozen (p := ⟨w.heap.size + 1, 9, none⟩) (by first | (simp; done) | (simp; omega))).trans (by go_simp)
  have f3_10 : w4.frozen? ⟨w.heap.size + 1, 10, none⟩ = false := (hb.frozen (p := ⟨w.heap.size + 1, 10, none⟩) (by first | (simp; done) | (simp; omega))).trans (by go_simp)
  have f3_11 : w4.frozen? ⟨w.heap.size + 1 + 1, 0, none⟩ = false := (hb.frozen (p := ⟨w.heap.size + 1 + 1, 0, none⟩) (by first | (simp; done) | (simp; omega))).trans (by go_simp)
  have f3_12 : w4.frozen? ⟨w.heap.size + 1 + 1, 1, none⟩ = false := (hb.frozen (p := ⟨w.heap.size + 1 + 1, 1, none⟩) (by first | (simp; done) | (simp; omega))).trans (by go_simp)
  have f3_13 : w4.frozen? ⟨w.heap.size + 1 + 1, 2, none⟩ = false := (hb.frozen (p := ⟨w.heap.size + 1 + 1, 2, none⟩) (by first | (simp; done) | (simp; omega))).trans (by go_simp)
  have f3_14 : w4.frozen? ⟨w.heap.size + 1 + 1, 3, none⟩ = false := (hb.frozen (p := ⟨w.heap.size + 1 + 1, 3, none⟩) (by first | (simp; done) | (simp; omega))).trans (by go_simp)
  have f3_15 : w4.frozen? ⟨w.heap.size + 1 + 1, 4, none⟩ = false := (hb.frozen (p := ⟨w.heap.size + 1 + 1, 4, none⟩) (by first | (simp; done) | (simp; omega))).trans (by go_simp)
  have f3_16 : w4.frozen? ⟨w.heap.size + 1 + 1, 5, none⟩ = false := (hb.frozen (p := ⟨w.heap.size + 1 + 1, 5, none⟩) (by first | (simp; done) | (simp; omega))).trans (by go_simp)
  have f3_17 : w4.frozen? ⟨w.heap.size + 1 + 1, 6, none⟩ = false := (hb.frozen (p := ⟨w.heap.size + 1 + 1, 6, none⟩) (by first | (simp; done) | (simp; omega))).trans (by go_simp)
  have f3_18 : w4.frozen? ⟨w.heap.size + 1 + 1, 7, none⟩ = false := (hb.frozen (p := ⟨w.heap.size + 1 + 1, 7, none⟩) (by first | (simp; done) | (simp; omega))).trans (by go_simp)
  have f3_19 : w4.frozen? ⟨w.heap.size + 1 + 1, 8, none⟩ = false := (hb.frozen (p := ⟨w.heap.size + 1 + 1, 8, none⟩) (by first | (simp; done) | (simp; omega))).trans (by go_simp)
  have f3_20 : w4.frozen? ⟨w.heap.size + 1 + 1, 9, none⟩ = false := (hb.frozen (p := ⟨w.heap.size + 1 + 1, 9, none⟩) (by first | (simp; done) | (simp; omega))).trans (by go_simp)
  have f3_21 : w4.frozen? ⟨w.heap.size + 1 + 1, 10, none⟩ = false := (hb.frozen (p := ⟨w.heap.size + 1 + 1, 10, none⟩) (by first | (simp; done) | (simp; omega))).trans (by go_simp)
  have HO : Hid (Below w.heap.size w w4) := by have h := HO.out; refine box_step ?_ hb (by go_size); go_grown
  clear hb c2_0 c2_1 c2_2 c2_3 c2_4 c2_5 c2_6 c2_7 c2_8 c2_9 c2_10 c2_11 c2_12 c2_13 c2_14 c2_15 c2_16 c2_17 c2_18 c2_19 c2_20 c2_21 c2_22 c2_23 c2_24 c2_25 c2_26 c2_27 c2_28 c2_29 c2_30 c2_31 c2_32 f2_0 f2_1 f2_2 f2_3 f2_4 f2_5 f2_6 f2_7 f2_8 f2_9 f2_10 f2_11 f2_12 f2_13 f2_14 f2_15 f2_16 f2_17 f2_18 f2_19 f2_20 f2_21 s2
  go_wp2_with fail
  refine (toFrac_any g.k.n g.k.d _).mono ?_
  rintro e w5 ⟨rfl, hb⟩
  have s4 : w.heap.size + 1 + 1 < w5.heap.size := by have := hb.size; simp at this; omega
  have c4_0 : w5.cell? ⟨w.heap.size, 0, none⟩ = some (.int .i64 g.c.n) := (hb.cell (p := ⟨w.heap.size, 0, none⟩) (by first | (simp; done) | (simp; omega))).trans (by go_simp)
  have c4_1 : w5.cell? ⟨w.heap.size, 1, none⟩ = some (.int .i64 g.c.d) := (hb.cell (p := ⟨w.heap.size, 1, none⟩) (by first | (simp; done) | (simp; omega))).trans (by go_simp)
  have c4_2 : w5.cell? ⟨w.heap.size, 2, none⟩ = some (.int .i64 g.g.n) := (hb.cell (p := ⟨w.heap.size, 2, none⟩) (by first | (simp; done) | (simp; omega))).trans (by go_simp)
  have c4_3 : w5.cell? ⟨w.heap.size, 3, none⟩ = some (.int .i64 g.g.d) := (hb.cell (p := ⟨w.heap.size, 3, none⟩) (by first | (simp; done) | (simp; omega))).trans (by go_simp)
  have c4_4 : w5.cell? ⟨w.heap.size, 4, none⟩ = some (.int .i64 g.x.n) := (hb.cell (p := ⟨w.heap.size, 4, none⟩) (by first | (simp; done) | (simp; omega))).trans (by go_simp)
  have c4_5 : w5.cell? ⟨w.heap.size, 5, none⟩ = some (.int .i64 g.x.d) := (hb.cell (p := ⟨w.heap.size, 5, none⟩) (by first | (simp; done) | (simp; omega))).trans (by go_simp)
  have c4_6 : w5.cell? ⟨w.heap.size, 6, none⟩ = some (.int .i64 g.s.n) := (hb.cell (p := ⟨w.heap.size, 6, none⟩) (by first | (simp; done) | (simp; omega))).trans (by go_simp)
  have c4_7 : w5.cell? ⟨w.heap.size, 7, none⟩ = some (.int .i64 g.s.d) := (hb.cell (p := ⟨w.heap.size, 7, none⟩) (by first | (simp; done) | (simp; omega))).trans (by go_simp)
  have c4_8 : w5.cell? ⟨w.heap.size, 8, none⟩ = some (.int .i64 g.k.n) := (hb.cell (p := ⟨w.heap.size, 8, none⟩) (by first | (simp; done) | (simp; omega))).trans (by go_simp)
  have c4_9 : w5.cell? ⟨w.heap.size, 9, none⟩ = some (.int .i64 g.k.d) := (hb.cell (p := ⟨w.heap.size, 9, none⟩) (by first | (simp; done) | (simp; omega))).trans (by go_simp)
  have c4_10 : w5.cell? ⟨w.heap.size, 10, none⟩ = some (.bool g.t) := (hb.cell (p := ⟨w.heap.size, 10, none⟩) (by first | (simp; done) | (simp; omega))).trans (by go_simp)
  have c4_11 : w5.cell? ⟨w.heap.size + 1, 0, none⟩ = some (.int .i64 0) := (hb.cell (p := ⟨w.heap.size + 1, 0, none⟩) (by first | (simp; done) | (simp; omega))).trans (by go_simp)
  have c4_12 : w5.cell? ⟨w.heap.size + 1, 1, none⟩ = some (.int .i64 0) := (hb.cell (p := ⟨w.heap.size + 1, 1, none⟩) (by first | (simp; done) | (simp; omega))).trans (by go_simp)
  have c4_13 : w5.cell? ⟨w.heap.size + 1, 2, none⟩ = some (.int .i64 0) := (hb.cell (p := ⟨w.heap.size + 1, 2, none⟩) (by first | (simp; done) | (simp; omega))).trans (by go_simp)
  have c4_14 : w5.cell? ⟨w.heap.size + 1, 3, none⟩ = some (.int .i64 0) := (hb.cell (p := ⟨w.heap.size + 1, 3, none⟩) (by first | (simp; done) | (simp; omega))).trans (by go_simp)
  have c4_15 : w5.cell? ⟨w.heap.size + 1, 4, none⟩ = some (.int .i64 0) := (hb.cell (p := ⟨w.heap.size + 1, 4, none⟩) (by first | (simp; done) | (simp; omega))).trans (by go_simp)
  have c4_16 : w5.cell? ⟨w.heap.size + 1, 5, none⟩ = some (.int .i64 0) := (hb.cell (p := ⟨w.heap.size + 1, 5, none⟩) (by first | (simp; done) | (simp; omega))).trans (by go_simp)
  have c4_17 : w5.cell? ⟨w.heap.size + 1, 6, none⟩ = some (.int .i64 0) := (hb.cell (p := ⟨w.heap.size + 1, 6, none⟩) (by first | (simp; done) | (simp; omega))).trans (by go_simp)
  have c4_18 : w5.cell? ⟨w.heap.size + 1, 7, none⟩ = some (.int .i64 0) := (hb.cell (p := ⟨w.heap.size + 1, 7, none⟩) (by first | (simp; done) | (simp; omega))).trans (by go_simp)
  have c4_19 : w5.cell? ⟨w.heap.size + 1, 8, none⟩ = some (.int .i64 0) := (hb.cell (p := ⟨w.heap.size + 1, 8, none⟩) (by first | (simp; done) | (simp; omega))).trans (by go_simp)
  have c4_20 : w5.cell? ⟨w.heap.size + 1, 9, none⟩ = some (.int .i64 0) := (hb.cell (p := ⟨w.heap.size + 1, 9, none⟩) (by first | (simp; done) | (simp; omega))).trans (by go_simp)
  have c4_21 : w5.cell? ⟨w.heap.size + 1, 10, none⟩ = some (.bool false) := (hb.cell (p := ⟨w.heap.size + 1, 10, none⟩) (by first | (simp; done) | (simp; omega))).trans (by go_simp)
  have c4_22 : w5.cell? ⟨w.heap.size + 1 + 1, 0, none⟩ = some (.int .i64 g.c.n) := (hb.cell (p := ⟨w.heap.size + 1 + 1, 0, none⟩) (by first | (simp; done) | (simp; omega))).trans (by go_simp)
  have c4_23 : w5.cell? ⟨w.heap.size + 1 + 1, 1, none⟩ = some (.int .i64 g.c.d) := (hb.cell (p := ⟨w.heap.size + 1 + 1, 1, none⟩) (by first | (simp; done) | (simp; omega))).trans (by go_simp)
  have c4_24 : w5.cell? ⟨w.heap.size + 1 + 1, 2, none⟩ = some (.int .i64 g.g.n) := (hb.cell (p := ⟨w.heap.size + 1 + 1, 2, none⟩) (by first | (simp; done) | (simp; omega))).trans (by go_simp)
  have c4_25 : w5.cell? ⟨w.heap.size + 1 + 1, 3, none⟩ = some (.int .i64 g.g.d) := (hb.cell (p := ⟨w.heap.size + 1 + 1, 3, none⟩) (by first | (simp; done) | (simp; omega))).trans (by go_simp)
  have c4_26 : w5.cell? ⟨w.heap.size + 1 + 1, 4, none⟩ = some (.int .i64 g.x.n) := (hb.cell (p := ⟨w.heap.size + 1 + 1, 4, none⟩) (by first | (simp; done) | (simp; omega))).trans (by go_simp)
  have c4_27 : w5.cell? ⟨w.heap.size + 1 + 1, 5, none⟩ = some (.int .i64 g.x.d) := (hb.cell (p := ⟨w.heap.size + 1 + 1, 5, none⟩) (by first | (simp; done) | (simp; omega))).trans (by go_simp)
  have c4_28 : w5.cell? ⟨w.heap.size + 1 + 1, 6, none⟩ = some (.int .i64 g.s.n) := (hb.cell (p := ⟨w.heap.size + 1 + 1, 6, none⟩) (by first | (simp; done) | (simp; omega))).trans (by go_simp)
  have c4_29 : w5.cell? ⟨w.heap.size + 1 + 1, 7, none⟩ = some (.int .i64 g.s.d) := (hb.cell (p := ⟨w.heap.size + 1 + 1, 7, none⟩) (by first | (simp; done) | (simp; omega))).trans (by go_simp)
  have c4_30 : w5.cell? ⟨w.heap.size + 1 + 1, 8, none⟩ = some (.int .i64 0) := (hb.cell (p := ⟨w.heap.size + 1 + 1, 8, none⟩) (by first | (simp; done) | (simp; omega))).trans (by go_simp)
  have c4_31 : w5.cell? ⟨w.heap.size + 1 + 1, 9, none⟩ = some (.int .i64 0) := (hb.cell (p := ⟨w.heap.size + 1 + 1, 9, none⟩) (by first | (simp; done) | (simp; omega))).trans (by go_simp)
  have c4_32 : w5.cell? ⟨w.heap.size + 1 + 1, 10, none⟩ = some (.bool false) := (hb.cell (p := ⟨w.heap.size + 1 + 1, 10, none⟩) (by first | (simp; done) | (simp; omega))).trans (by go_simp)
  have f4_0 : w5.frozen? ⟨w.heap.size + 1, 0, none⟩ = false := (hb.frozen (p := ⟨w.heap.size + 1, 0, none⟩) (by first | (simp; done) | (simp; omega))).trans (by go_simp)
  have f4_1 : w5.frozen? ⟨w.heap.size + 1, 1, none⟩ = false := (hb.frozen (p := ⟨w.heap.size + 1, 1, none⟩) (by first | (simp; done) | (simp; omega))).trans (by go_simp)
  have f4_2 : w5.frozen? ⟨w.heap.size + 1, 2, none⟩ = false := (hb.frozen (p := ⟨w.heap.size + 1, 2, none⟩) (by first | (simp; done) | (simp; omega))).trans (by go_simp)
  have f4_3 : w5.frozen? ⟨w.heap.size + 1, 3, none⟩ = false := (hb.frozen (p := ⟨w.heap.size + 1, 3, none⟩) (by first | (simp; done) | (simp; omega))).trans (by go_simp)
  have f4_4 : w5.frozen? ⟨w.heap.size + 1, 4, none⟩ = false := (hb.frozen (p := ⟨w.heap.size + 1, 4, none⟩) (by first | (simp; done) | (simp; omega))).trans (by go_simp)
  have f4_5 : w5.frozen? ⟨w.heap.size + 1, 5, none⟩ = false := (hb.frozen (p := ⟨w.heap.size + 1, 5, none⟩) (by first | (simp; done) | (simp; omega))).trans (by go_simp)
  have f4_6 : w5.frozen? ⟨w.heap.size + 1, 6, none⟩ = false := (hb.frozen (p := ⟨w.heap.size + 1, 6, none⟩) (by first | (simp; done) | (simp; omega))).trans (by go_simp)
  have f4_7 : w5.frozen? ⟨w.heap.size + 1, 7, none⟩ = false := (hb.frozen (p := ⟨w.heap.size + 1, 7, none⟩) (by first | (simp; done) | (simp; omega))).trans (by go_simp)
  have f4_8 : w5.frozen? ⟨w.heap.size + 1, 8, none⟩ = false := (hb.frozen (p := ⟨w.heap.size + 1, 8, none⟩) (by first | (simp; done) | (simp; omega))).trans (by go_simp)
  have f4_9 : w5.frozen? ⟨w.heap.size + 1, 9, none⟩ = false := (hb.frozen (p := ⟨w.heap.size + 1, 9, none⟩) (by first | (simp; done) | (simp; omega))).trans (by go_simp)
  have f4_10 : w5.frozen? ⟨w.heap.size + 1, 10, none⟩ = false := (hb.frozen (p := ⟨w.heap.size + 1, 10, none⟩) (by first | (simp; done) | (simp; omega))).trans (by go_simp)
  have f4_11 : w5.frozen? ⟨w.heap.size + 1 + 1, 0, none⟩ = false := (hb.frozen (p := ⟨w.heap.size + 1 + 1, 0, none⟩) (by first | (simp; done) | (simp; omega))).trans (by go_simp)
  have f4_12 : w5.frozen? ⟨w.heap.size + 1 + 1, 1, none⟩ = false := (hb.frozen (p := ⟨w.heap.size + 1 + 1, 1, none⟩) (by first | (simp; done) | (simp; omega))).trans (by go_simp)
  have f4_13 : w5.frozen? ⟨w.heap.size + 1 + 1, 2, none⟩ = false := (hb.frozen (p := ⟨w.heap.size + 1 + 1, 2, none⟩) (by first | (simp; done) | (simp; omega))).trans (by go_simp)
  have f4_14 : w5.frozen? ⟨w.heap.size + 1 + 1, 3, none⟩ = false := (hb.frozen (p := ⟨w.heap.size + 1 + 1, 3, none⟩) (by first | (simp; done) | (simp; omega))).trans (by go_simp)
  have f4_15 : w5.frozen? ⟨w.heap.size + 1 + 1, 4, none⟩ = false := (hb.frozen (p := ⟨w.heap.size + 1 + 1, 4, none⟩) (by first | (simp; done) | (simp; omega))).trans (by go_simp)
  have f4_16 : w5.frozen? ⟨w.heap.size + 1 + 1, 5, none⟩ = false := (hb.frozen (p := ⟨w.heap.size + 1 + 1, 5, none⟩) (by first | (simp; done) | (simp; omega))).trans (by go_simp)
  have f4_17 : w5.frozen? ⟨w.heap.size + 1 + 1, 6, none⟩ = false := (hb.frozen (p := ⟨w.heap.size + 1 + 1, 6, none⟩) (by first | (simp; done) | (simp; omega))).trans (by go_simp)
  have f4_18 : w5.frozen? ⟨w.heap.size + 1 + 1, 7, none⟩ = false := (hb.frozen (p := ⟨w.heap.size + 1 + 1, 7, none⟩) (by first | (simp; done) | (simp; omega))).trans (by go_simp)
  have f4_19 : w5.frozen? ⟨w.heap.size + 1 + 1, 8, none⟩ = false := (hb.frozen (p := ⟨w.heap.size + 1 + 1, 8, none⟩) (by first | (simp; done) | (simp; omega))).trans (by go_simp)
  have f4_20 : w5.frozen? ⟨w.heap.size + 1 + 1, 9, none⟩ = false := (hb.frozen (p := ⟨w.heap.size + 1 + 1, 9, none⟩) (by first | (simp; done) | (simp; omega))).trans (by go_simp)
  have f4_21 : w5.frozen? ⟨w.heap.size + 1 + 1, 10, none⟩ = false := (hb.frozen (p := ⟨w.heap.size + 1 + 1, 10, none⟩) (by first | (simp; done) | (simp; omega))).trans (by go_simp)
  have HO : Hid (Below w.heap.size w w5) := by have h := HO.out; refine box_step ?_ hb (by go_size); go_grown
  clear hb c3_0 c3_1 c3_2 c3_3 c3_4 c3_5 c3_6 c3_7 c3_8 c3_9 c3_10 c3_11 c3_12 c3_13 c3_14 c3_15 c3_16 c3_17 c3_18 c3_19 c3_20 c3_21 c3_22 c3_23 c3_24 c3_25 c3_26 c3_27 c3_28 c3_29 c3_30 c3_31 c3_32 f3_0 f3_1 f3_2 f3_3 f3_4 f3_5 f3_6 f3_7 f3_8 f3_9 f3_10 f3_11 f3_12 f3_13 f3_14 f3_15 f3_16 f3_17 f3_18 f3_19 f3_20 f3_21 s3
  go_wp2
  refine bodyPost_ret (v := .agg #[.int .i64 g.c.n, .int .i64 g.c.d, .int .i64 g.g.n, .int .i64 g.g.d, .int .i64 g.x.n, .int .i64 g.x.d, .int .i64 g.s.n, .int .i64 g.s.d, .int .i64 g.k.n, .int .i64 g.k.d, .bool g.t]) (by simp [results, Try.results62, go_sem, c4_11, c4_12, c4_13, c4_14, c4_15, c4_16, c4_17, c4_18, c4_19, c4_20, c4_21] <;> (repeat' (first | rfl | apply And.intro))) rfl ⟨rfl, ?_⟩
  have h := HO.out
  go_grown
end Go.Proofs.Ytjibogknakaokaa
