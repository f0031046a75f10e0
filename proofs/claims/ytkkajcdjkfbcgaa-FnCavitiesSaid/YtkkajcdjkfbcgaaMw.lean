/- The system of no part at all. -/
import Derived.Test.YtkkajcdjkfbcgaaMn
namespace Go.Proofs.Ytkkajcdjkfbcgaa
open Go.RowKit
set_option linter.unusedVariables false
set_option linter.unusedSimpArgs false
set_option maxRecDepth 20000 in
set_option maxHeartbeats 3200000 in
theorem smatrix_nil (w : World) : Calls Try.prog 23 #[.slice none 0 0] w fun e w' => e = .returned (.agg #[.int .i64 0, .int .i64 1, .int .i64 1, .int .i64 0, .int .i64 1, .int .i64 0, .int .i64 1, .int .i64 1, .int .i64 1]) ∧ Below w.heap.size w w' := by
  go_enter Try.func23, Try.ntmps23
  go_wp2_with fail
  refine (sparts_nil _).mono ?_
  rintro e w1 ⟨rfl, hb⟩
  have RB : Hid (Blk w1 w.heap.size #[.int .i64 0, .int .i64 0, .int .i64 0, .int .i64 0, .int .i64 0, .int .i64 0, .int .i64 0, .int .i64 0, .int .i64 0] 46) := Blk.old (Blk.new rfl) hb
  have HO : Hid (Below w.heap.size w w1) := by refine box_step ?_ hb (by go_size); go_grown
  clear hb
  go_wp2_with fail
  refine (sone _).mono ?_
  rintro e w2 ⟨rfl, hb⟩
  have RB : Hid (Blk w2 w.heap.size #[.int .i64 0, .int .i64 0, .int .i64 0, .int .i64 0, .int .i64 0, .int .i64 0, .int .i64 0, .int .i64 0, .int .i64 0] 46) := Blk.old RB.out hb
  have HO : Hid (Below w.heap.size w w2) := box_step HO.out hb (by first | exact Nat.le_refl _ | exact HO.out.size)
  clear hb
  go_wp2_with fail
  go_loopw [5] (fun i wr => i = .int .i64 0 ∧ Below w2.heap.size w2 wr ∧ Blk wr w2.heap.size #[.int .i64 0, .int .i64 1, .int .i64 1, .int .i64 0, .int .i64 1, .int .i64 0, .int .i64 1, .int .i64 1, .int .i64 1] 46) (fun i _ => 0)
  case atStart => exact ⟨rfl, (Below.refl _ _).alloc (Nat.le_refl _) _, Blk.new rfl⟩
  case round =>
    obtain ⟨rfl, hB, hP⟩ := hrel
    have HB : Hid (Below w2.heap.size w2 wr) := hB
    have p0 := hP.cell (j := 0) rfl
    have p1 := hP.cell (j := 1) rfl
    have p2 := hP.cell (j := 2) rfl
    have p3 := hP.cell (j := 3) rfl
    have p4 := hP.cell (j := 4) rfl
    have p5 := hP.cell (j := 5) rfl
    have p6 := hP.cell (j := 6) rfl
    have p7 := hP.cell (j := 7) rfl
    have p8 := hP.cell (j := 8) rfl
    have RR : Blk wr w.heap.size #[.int .i64 0, .int .i64 0, .int .i64 0, .int .i64 0, .int .i64 0, .int .i64 0, .int .i64 0, .int .i64 0, .int .i64 0] 46 := Blk.old RB.out HB.out
    have r0 := RR.cell (j := 0) rfl
    have r1 := RR.cell (j := 1) rfl
    have r2 := RR.cell (j := 2) rfl
    have r3 := RR.cell (j := 3) rfl
    have r4 := RR.cell (j := 4) rfl
    have r5 := RR.cell (j := 5) rfl
    have r6 := RR.cell (j := 6) rfl
    have r7 := RR.cell (j := 7) rfl
    have r8 := RR.cell (j := 8) rfl
    have rf := RR.frozen
    have rz := RR.lt
    have hne : w.heap.size ≠ w2.heap.size := by have := RB.out.lt; omega
    clear hP hB RR
    go_upto_region 9 with fail
    repeat go_step
    refine bodyPost_ret (v := .agg #[.int .i64 0, .int .i64 1, .int .i64 1, .int .i64 0, .int .i64 1, .int .i64 0, .int .i64 1, .int .i64 1, .int .i64 1]) (by simp [results, Try.results23, go_sem, r0, r1, r2, r3, r4, r5, r6, r7, r8, rf, rz] <;> (repeat' (first | rfl | apply And.intro))) rfl ⟨rfl, ?_⟩
    have h := HO.out.trans (HB.out.mono HO.out.size)
    go_grown
end Go.Proofs.Ytkkajcdjkfbcgaa
