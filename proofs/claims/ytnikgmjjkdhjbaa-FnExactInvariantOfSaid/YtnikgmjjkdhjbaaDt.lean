/- Determinants and invariants: the program's way. -/
import Derived.Test.YtnikgmjjkdhjbaaIp
namespace Go.Proofs.Ytnikgmjjkdhjbaa
open Go.RowKit
set_option linter.unusedVariables false
set_option linter.unusedSimpArgs false
set_option maxRecDepth 20000 in
set_option maxHeartbeats 1600000 in
theorem idet (m : Mx) (w : World) : Calls Try.prog 33 #[.agg #[.int .i64 m.A.n, .int .i64 m.A.d, .int .i64 m.B.n, .int .i64 m.B.d, .int .i64 m.C.n, .int .i64 m.C.d, .int .i64 m.D.n, .int .i64 m.D.d]] w fun e w' => e = .returned (.agg #[.int .i64 (apC m.A m.D m.B m.C), .int .i64 (sel (apC m.A m.D m.B m.C) (apQ m.A m.D m.B m.C)).n, .int .i64 (sel (apC m.A m.D m.B m.C) (apQ m.A m.D m.B m.C)).d]) ∧ Below w.heap.size w w' := by
  go_enter Try.func33, Try.ntmps33
  go_wp2_with fail
  refine (iap m.A m.D m.B m.C _).mono ?_
  rintro e w1 ⟨rfl, hb⟩
  have HO : Hid (Below w.heap.size w w1) := by refine box_step ?_ hb (by simp <;> omega); go_grown
  have X0 : Blk w1 (w.heap.size) #[.int .i64 m.A.n, .int .i64 m.A.d, .int .i64 m.B.n, .int .i64 m.B.d, .int .i64 m.C.n, .int .i64 m.C.d, .int .i64 m.D.n, .int .i64 m.D.d] 27 := Blk.old ((Blk.alloc (Blk.new (by simp)) _)) hb
  have K0 : Hid (w1.cell? ⟨w.heap.size, 0, none⟩ = some (.int .i64 m.A.n)) := X0.cell rfl
  have K1 : Hid (w1.cell? ⟨w.heap.size, 1, none⟩ = some (.int .i64 m.A.d)) := X0.cell rfl
  have K2 : Hid (w1.cell? ⟨w.heap.size, 2, none⟩ = some (.int .i64 m.B.n)) := X0.cell rfl
  have K3 : Hid (w1.cell? ⟨w.heap.size, 3, none⟩ = some (.int .i64 m.B.d)) := X0.cell rfl
  have K4 : Hid (w1.cell? ⟨w.heap.size, 4, none⟩ = some (.int .i64 m.C.n)) := X0.cell rfl
  have K5 : Hid (w1.cell? ⟨w.heap.size, 5, none⟩ = some (.int .i64 m.C.d)) := X0.cell rfl
  have K6 : Hid (w1.cell? ⟨w.heap.size, 6, none⟩ = some (.int .i64 m.D.n)) := X0.cell rfl
  have K7 : Hid (w1.cell? ⟨w.heap.size, 7, none⟩ = some (.int .i64 m.D.d)) := X0.cell rfl
  clear X0
  have RB : Hid (Blk w1 (w.heap.size + 1) #[.int .i64 0, .int .i64 0, .int .i64 0] 60) := Blk.old (Blk.new (by simp)) hb
  clear hb
  have r0 := RB.out.cell (j := 0) rfl
  have r1 := RB.out.cell (j := 1) rfl
  have r2 := RB.out.cell (j := 2) rfl
  have rf := RB.out.frozen
  go_wp2
  refine bodyPost_ret (v := .agg #[.int .i64 (apC m.A m.D m.B m.C), .int .i64 (sel (apC m.A m.D m.B m.C) (apQ m.A m.D m.B m.C)).n, .int .i64 (sel (apC m.A m.D m.B m.C) (apQ m.A m.D m.B m.C)).d]) (by simp [results, Try.results33, go_sem, r0, r1, r2, World.cell?_alloc_lt, RB.out.lt] <;> (repeat' (first | rfl | apply And.intro))) rfl ⟨rfl, ?_⟩
  have h := HO.out
  have hlt := RB.out.lt
  have hsz := h.size
  go_grown
set_option maxRecDepth 20000 in
set_option maxHeartbeats 1600000 in
theorem iinv (r s : Ry) (w : World) : Calls Try.prog 43 #[.agg #[.int .i64 r.Y.n, .int .i64 r.Y.d, .int .i64 r.U.n, .int .i64 r.U.d], .agg #[.int .i64 s.Y.n, .int .i64 s.Y.d, .int .i64 s.U.n, .int .i64 s.U.d]] w fun e w' => e = .returned (.agg #[.int .i64 (apC r.Y s.U s.Y r.U), .int .i64 (sel (apC r.Y s.U s.Y r.U) (apQ r.Y s.U s.Y r.U)).n, .int .i64 (sel (apC r.Y s.U s.Y r.U) (apQ r.Y s.U s.Y r.U)).d]) ∧ Below w.heap.size w w' := by
  go_enter Try.func43, Try.ntmps43
  go_wp2_with fail
  refine (iap r.Y s.U s.Y r.U _).mono ?_
  rintro e w1 ⟨rfl, hb⟩
  have HO : Hid (Below w.heap.size w w1) := by refine box_step ?_ hb (by simp <;> omega); go_grown
  have X0 : Blk w1 (w.heap.size) #[.int .i64 r.Y.n, .int .i64 r.Y.d, .int .i64 r.U.n, .int .i64 r.U.d] 70 := Blk.old ((Blk.alloc (Blk.alloc (Blk.new (by simp)) _) _)) hb
  have K0 : Hid (w1.cell? ⟨w.heap.size, 0, none⟩ = some (.int .i64 r.Y.n)) := X0.cell rfl
  have K1 : Hid (w1.cell? ⟨w.heap.size, 1, none⟩ = some (.int .i64 r.Y.d)) := X0.cell rfl
  have K2 : Hid (w1.cell? ⟨w.heap.size, 2, none⟩ = some (.int .i64 r.U.n)) := X0.cell rfl
  have K3 : Hid (w1.cell? ⟨w.heap.size, 3, none⟩ = some (.int .i64 r.U.d)) := X0.cell rfl
  clear X0
  have X1 : Blk w1 (w.heap.size + 1) #[.int .i64 s.Y.n, .int .i64 s.Y.d, .int .i64 s.U.n, .int .i64 s.U.d] 70 := Blk.old ((Blk.alloc (Blk.new (by simp)) _)) hb
  have K4 : Hid (w1.cell? ⟨w.heap.size + 1, 0, none⟩ = some (.int .i64 s.Y.n)) := X1.cell rfl
  have K5 : Hid (w1.cell? ⟨w.heap.size + 1, 1, none⟩ = some (.int .i64 s.Y.d)) := X1.cell rfl
  have K6 : Hid (w1.cell? ⟨w.heap.size + 1, 2, none⟩ = some (.int .i64 s.U.n)) := X1.cell rfl
  have K7 : Hid (w1.cell? ⟨w.heap.size + 1, 3, none⟩ = some (.int .i64 s.U.d)) := X1.cell rfl
  clear X1
  have RB : Hid (Blk w1 (w.heap.size + 1 + 1) #[.int .i64 0, .int .i64 0, .int .i64 0] 60) := Blk.old (Blk.new (by simp)) hb
  clear hb
  have r0 := RB.out.cell (j := 0) rfl
  have r1 := RB.out.cell (j := 1) rfl
  have r2 := RB.out.cell (j := 2) rfl
  have rf := RB.out.frozen
  go_wp2
  refine bodyPost_ret (v := .agg #[.int .i64 (apC r.Y s.U s.Y r.U), .int .i64 (sel (apC r.Y s.U s.Y r.U) (apQ r.Y s.U s.Y r.U)).n, .int .i64 (sel (apC r.Y s.U s.Y r.U) (apQ r.Y s.U s.Y r.U)).d]) (by simp [results, Try.results43, go_sem, r0, r1, r2, World.cell?_alloc_lt, RB.out.lt] <;> (repeat' (first | rfl | apply And.intro))) rfl ⟨rfl, ?_⟩
  have h := HO.out
  have hlt := RB.out.lt
  have hsz := h.size
  go_grown
end Go.Proofs.Ytnikgmjjkdhjbaa
